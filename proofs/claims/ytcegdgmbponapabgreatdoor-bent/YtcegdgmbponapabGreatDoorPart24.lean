/-
  What the other calls of a vault refuse.
  settle, Recover, CrashAt.
  refreshed: over what piece answers; where the tape is too short; where a store is down.
  The coffer's Put, each way that it refuses.
-/
import Derived.Test.YtcegdgmbponapabGreatDoorPart23
import Derived.Test.YtcegdgmbponapabGreatDoorPart15
namespace Go.Proofs.YtcegdgmbponapabGreatDoor
open Go.RowKit
attribute [local go_sem ↓] Go.wp_at_zero Go.wp_at_succ
def noObj:Value:=.agg #[.string ByteArray.empty,.int .i64 0,.int .i64 0,.int .i64 0,.int .i64 0,.int .i64 0]
set_option maxRecDepth 100000 in
set_option maxHeartbeats 1000000 in
theorem object_crash (V:Nat) (nm:ByteArray) (w:World) (hV:V<w.heap.size) (c5:w.cell? ⟨V,5,none⟩=some (.bool true)) :
  Calls Tryz.prog 61 #[.pointer (some ⟨V,0,none⟩),.string nm] w fun e w' =>
   ∃ev,e=.returned (.tuple #[noObj,ev])∧Chain w' 1 0 ev∧Below w.heap.size w w':=by
 have hba:=(Below.refl w.heap.size w).alloc (Nat.le_refl _) (.cells #[.string ByteArray.empty,.int .i64 0,.int .i64 0,.int .i64 0,.int .i64 0,.int .i64 0] 65)
 have HC:=hid (check_crashed V _ ((hba.cell (p:=⟨V,5,none⟩) hV).trans c5))
 have hVlt:¬V=w.heap.size:=by omega
 clear c5
 unfold noObj
 go_enter Tryz.func61,Tryz.ntmps61
 go_wp2_with (go_at_call 70;refine HC.out.mono ?_;rintro e w0 ⟨rfl,rfl⟩)
 refine bodyPost_ret (v:=.tuple #[.agg #[.string ByteArray.empty,.int .i64 0,.int .i64 0,.int .i64 0,.int .i64 0,.int .i64 0],.iface 109 (.int .i64 1)]) ?_ rfl ⟨_,rfl,.hit,?_⟩
 ·simp [results,Tryz.results61,go_sem]
  rfl
 ·first
  | exact hba
  | exact ((((((hba.setCell (Nat.le_refl _) _).setCell (Nat.le_refl _) _).setCell (Nat.le_refl _) _).setCell (Nat.le_refl _) _).setCell (Nat.le_refl _) _).setCell (Nat.le_refl _) _)
set_option maxRecDepth 100000 in
set_option maxHeartbeats 1000000 in
theorem vget_no (V d:Nat) (k:Int) (nm:ByteArray) (w:World)
  (ho:Calls Tryz.prog 61 #[.pointer (some ⟨V,0,none⟩),.string nm] w fun e w'=>∃ev,e=.returned (.tuple #[noObj,ev])∧Chain w' k d ev∧Below w.heap.size w w') :
  Calls Tryz.prog 46 #[.pointer (some ⟨V,0,none⟩),.string nm] w fun e w'=>∃ev,e=.returned (.tuple #[.slice none 0 0,ev])∧Chain w' k (d+1) ev∧Below w.heap.size w w':=by
 have HO:=hid ho
 unfold noObj at HO
 clear ho
 go_enter Tryz.func46,Tryz.ntmps46
 go_wp2_with fail
 refine HO.out.mono ?_
 rintro e w1 ⟨ev,rfl,hch,hb1⟩
 have hba:=(Below.refl w1.heap.size w1).alloc (Nat.le_refl _) (.cells #[.string ByteArray.empty,.int .i64 0,.int .i64 0,.int .i64 0,.int .i64 0,.int .i64 0] 65)
 have HCH:=hid (hch.keeps hba (Nat.le_refl _))
 obtain ⟨te,ve,rfl⟩:=hch.shape
 clear hch
 go_wp2_with (go_at_call 53;refine (at_chain _ _ k d _ HCH.out).mono ?_;rintro e w2 ⟨e2,rfl,hch2,hb2⟩)
 go_ret2
 have hb02:=hb1.trans (hba.mono hb1.size)
 exact ⟨_,rfl,hch2,hb02.trans (hb2.mono hb02.size)⟩
set_option maxRecDepth 100000 in
set_option maxHeartbeats 1000000 in
theorem vdelete_no (V d:Nat) (k:Int) (nm:ByteArray) (w:World)
  (ho:Calls Tryz.prog 61 #[.pointer (some ⟨V,0,none⟩),.string nm] w fun e w'=>∃ev,e=.returned (.tuple #[noObj,ev])∧Chain w' k d ev∧Below w.heap.size w w') :
  Calls Tryz.prog 40 #[.pointer (some ⟨V,0,none⟩),.string nm] w fun e w'=>∃ev,e=.returned ev∧Chain w' k (d+1) ev∧Below w.heap.size w w':=by
 have HO:=hid ho
 unfold noObj at HO
 clear ho
 go_enter Tryz.func40,Tryz.ntmps40
 go_wp2_with fail
 refine HO.out.mono ?_
 rintro e w1 ⟨ev,rfl,hch,hb1⟩
 have hba:=(Below.refl w1.heap.size w1).alloc (Nat.le_refl _) (.cells #[.string ByteArray.empty,.int .i64 0,.int .i64 0,.int .i64 0,.int .i64 0,.int .i64 0] 65)
 have HCH:=hid (hch.keeps hba (Nat.le_refl _))
 obtain ⟨te,ve,rfl⟩:=hch.shape
 clear hch
 go_wp2_with (go_at_call 53;refine (at_chain _ _ k d _ HCH.out).mono ?_;rintro e w2 ⟨e2,rfl,hch2,hb2⟩)
 go_ret
 have hb02:=hb1.trans (hba.mono hb1.size)
 exact ⟨_,rfl,hch2,hb02.trans (hb2.mono hb02.size)⟩
set_option maxRecDepth 100000 in
set_option maxHeartbeats 1000000 in
theorem vdelete_down (V d:Nat) (k:Int) (nm onm:ByteArray) (m t l size epoch:Int) (w:World)
  (ho:Calls Tryz.prog 61 #[.pointer (some ⟨V,0,none⟩),.string nm] w fun e w'=>e=.returned (.tuple #[.agg #[.string onm,.int .i64 m,.int .i64 t,.int .i64 l,.int .i64 size,.int .i64 epoch],.nilIface])∧Below w.heap.size w w')
  (hu:∀w',Below w.heap.size w w'→Calls Tryz.prog 63 #[.pointer (some ⟨V,0,none⟩)] w' fun e w''=>∃ev,e=.returned ev∧Chain w'' k d ev∧Below w'.heap.size w' w'') :
  Calls Tryz.prog 40 #[.pointer (some ⟨V,0,none⟩),.string nm] w fun e w'=>∃ev,e=.returned ev∧Chain w' k (d+1) ev∧Below w.heap.size w w':=by
 have HO:=hid ho
 have HU:=hid hu
 clear ho hu
 go_enter Tryz.func40,Tryz.ntmps40
 go_wp2_with fail
 refine HO.out.mono ?_
 rintro e w1 ⟨rfl,hb1⟩
 have hba:=hb1.alloc hb1.size (.cells #[.string onm,.int .i64 m,.int .i64 t,.int .i64 l,.int .i64 size,.int .i64 epoch] 65)
 go_wp2_with fail
 refine (HU.out _ hba).mono ?_
 rintro e w2 ⟨ev,rfl,hch,hb2⟩
 have hb02:=hba.trans (hb2.mono hba.size)
 have HCH:=hid hch
 obtain ⟨te,ve,rfl⟩:=hch.shape
 clear hch
 go_wp2_with (go_at_call 53;refine (at_chain _ _ k d _ HCH.out).mono ?_;rintro e w3 ⟨e3,rfl,hch3,hb3⟩)
 go_ret
 exact ⟨_,rfl,hch3,hb02.trans (hb3.mono hb02.size)⟩
set_option maxRecDepth 100000 in
set_option maxHeartbeats 1000000 in
theorem vrefresh_not (V d:Nat) (k:Int) (nm onm tape:ByteArray) (m t l size epoch:Nat) (w:World)
  (ho:Calls Tryz.prog 61 #[.pointer (some ⟨V,0,none⟩),.string nm] w fun e w'=>e=.returned (.tuple #[.agg #[.string onm,.int .i64 m,.int .i64 t,.int .i64 l,.int .i64 size,.int .i64 epoch],.nilIface])∧Below w.heap.size w w')
  (hu:∀w',Below w.heap.size w w'→Calls Tryz.prog 62 #[.pointer (some ⟨V,0,none⟩),.agg #[.string onm,.int .i64 m,.int .i64 t,.int .i64 l,.int .i64 size,.int .i64 epoch],.string tape] w' fun e w''=>∃ev,e=.returned (.tuple #[.slice none 0 0,ev])∧Chain w'' k d ev∧Below w'.heap.size w' w'') :
  Calls Tryz.prog 39 #[.pointer (some ⟨V,0,none⟩),.string nm,.string tape] w fun e w'=>∃ev,e=.returned ev∧Chain w' k (d+1) ev∧Below w.heap.size w w':=by
 have HO:=hid ho
 have HU:=hid hu
 clear ho hu
 go_enter Tryz.func39,Tryz.ntmps39
 go_wp2_with fail
 refine HO.out.mono ?_
 rintro e w1 ⟨rfl,hb1⟩
 have hba:=hb1.alloc hb1.size (.cells #[.string onm,.int .i64 m,.int .i64 t,.int .i64 l,.int .i64 size,.int .i64 epoch] 65)
 go_wp2_with fail
 refine (HU.out _ hba).mono ?_
 rintro e w2 ⟨ev,rfl,hch,hb2⟩
 have hb02:=hba.trans (hb2.mono hba.size)
 have HCH:=hid hch
 obtain ⟨te,ve,rfl⟩:=hch.shape
 clear hch
 go_wp2_with (go_at_call 53;refine (at_chain _ _ k d _ HCH.out).mono ?_;rintro e w3 ⟨e3,rfl,hch3,hb3⟩)
 go_ret
 exact ⟨_,rfl,hch3,hb02.trans (hb3.mono hb02.size)⟩
set_option maxRecDepth 100000 in
theorem openStore_crash (V:Nat) (i:Int) (w:World) (c5:w.cell? ⟨V,5,none⟩=some (.bool true)) :
  Calls Tryz.prog 67 #[.pointer (some ⟨V,0,none⟩),.int .i64 i] w fun e w'=>∃ev,e=.returned (.tuple #[.pointer none,ev])∧Chain w' 1 0 ev∧Below w.heap.size w w':=by
 have HC:=hid (check_crashed V _ c5)
 clear c5
 go_enter Tryz.func67,Tryz.ntmps67
 go_wp2_with (first | (go_at_call 70;refine HC.out.mono ?_;rintro e w0 ⟨rfl,rfl⟩))
 go_ret2
 exact ⟨_,rfl,.hit,Below.refl _ _⟩
set_option maxRecDepth 100000 in
theorem vspoil_no (V d:Nat) (k i p:Int) (b:UInt8) (nm:ByteArray) (w:World)
  (ho:Calls Tryz.prog 67 #[.pointer (some ⟨V,0,none⟩),.int .i64 i] w fun e w'=>∃ev,e=.returned (.tuple #[.pointer none,ev])∧Chain w' k d ev∧Below w.heap.size w w') :
  Calls Tryz.prog 42 #[.pointer (some ⟨V,0,none⟩),.int .i64 i,.string nm,.int .i64 p,.int .u8 b.toNat] w fun e w'=>∃ev,e=.returned ev∧Chain w' k (d+1) ev∧Below w.heap.size w w':=by
 have HO:=hid ho
 clear ho
 go_enter Tryz.func42,Tryz.ntmps42
 go_wp2_with fail
 refine HO.out.mono ?_
 rintro e w1 ⟨ev,rfl,hch,hb1⟩
 have HCH:=hid hch
 obtain ⟨te,ve,rfl⟩:=hch.shape
 clear hch
 go_wp2_with (go_at_call 53;refine (at_chain _ _ k d _ HCH.out).mono ?_;rintro e w2 ⟨e2,rfl,hch2,hb2⟩)
 go_ret
 exact ⟨_,rfl,hch2,hb1.trans (hb2.mono hb1.size)⟩
set_option maxRecDepth 100000 in
theorem vspoil_not (V key n B bc:Nat) (sp:Nat→Nat) (i d:Nat) (k p:Int) (b:UInt8) (nm:ByteArray) (w:World) (h:Rdy w V key n B bc sp) (hi:i<n)
  (hs:Calls Tryz.prog 68 #[.pointer (some ⟨sp i,0,none⟩),.string nm,.int .i64 p,.int .u8 b.toNat] w fun e w'=>∃ev,e=.returned ev∧Chain w' k d ev∧Below w.heap.size w w') :
  Calls Tryz.prog 42 #[.pointer (some ⟨V,0,none⟩),.int .i64 i,.string nm,.int .i64 p,.int .u8 b.toNat] w fun e w'=>∃ev,e=.returned ev∧Chain w' k (d+1) ev∧Below w.heap.size w w':=by
 have HO:=hid (openStore_yes V key n B bc sp i w h hi)
 have HS:=hid hs
 clear h hs
 go_enter Tryz.func42,Tryz.ntmps42
 go_wp2_with (go_at_call 67;refine HO.out.mono ?_;rintro e w0 ⟨rfl,rfl⟩)
 refine HS.out.mono ?_
 rintro e w1 ⟨ev,rfl,hch,hb1⟩
 have HCH:=hid hch
 obtain ⟨te,ve,rfl⟩:=hch.shape
 clear hch
 go_wp2_with (go_at_call 53;refine (at_chain _ _ k d _ HCH.out).mono ?_;rintro e w2 ⟨e2,rfl,hch2,hb2⟩)
 go_ret
 exact ⟨_,rfl,hch2,hb1.trans (hb2.mono hb1.size)⟩
set_option maxRecDepth 100000 in
set_option maxHeartbeats 1000000 in
theorem sspoil_none (S:Nat) (down:Bool) (a:Option Addr) (c:Nat) (rs:List RecV) (nm:ByteArray) (p:Int) (b:UInt8) (w:World) (h:St w S down a c rs) (hno:hasName rs nm=false) :
  Calls Tryz.prog 68 #[.pointer (some ⟨S,0,none⟩),.string nm,.int .i64 p,.int .u8 b.toNat] w fun e w'=>∃ev,e=.returned ev∧Chain w' 9 1 ev∧Below w.heap.size w w':=by
 have HREC:=hid (record_no S down a c rs nm w h hno)
 clear h hno
 go_enter Tryz.func68,Tryz.ntmps68
 go_wp2_with fail
 refine HREC.out.mono ?_
 rintro e w1 ⟨ev,rfl,hch,hb1⟩
 have hba:=(Below.refl w1.heap.size w1).alloc (Nat.le_refl _) (.cells #[.string ByteArray.empty,.int .i64 0,.int .i64 0,.int .i64 0,.int .i64 0,.int .i64 0,.slice none 0 0,.slice none 0 0] 127)
 have HCH:=hid (hch.keeps hba (Nat.le_refl _))
 obtain ⟨te,ve,rfl⟩:=hch.shape
 clear hch
 go_wp2_with fail
 go_ret
 exact ⟨_,rfl,HCH.out,hb1.trans (hba.mono hb1.size)⟩
set_option maxRecDepth 100000 in
set_option maxHeartbeats 1000000 in
theorem sspoil_place (S:Nat) (down:Bool) (a:Option Addr) (c:Nat) (rs:List RecV) (r:RecV) (nm:ByteArray) (p:Int) (b:UInt8) (w:World) (h:St w S down a c rs) (hyes:hasName rs nm=true) (hr:r=rs[posOf rs nm]!) (hp:I64 p) (hno:p<0∨(r.sn:Int)≤p) (hT:Tab w) :
  Calls Tryz.prog 68 #[.pointer (some ⟨S,0,none⟩),.string nm,.int .i64 p,.int .u8 b.toNat] w fun e w'=>∃ev,e=.returned ev∧Chain w' 14 1 ev∧Below w.heap.size w w':=by
 have HREC:=hid (record_yes S down a c rs r nm w h hyes hr)
 have HT:=hid hT
 have HI:=hid hp
 clear h hyes hr hT hp
 by_cases h0:p<0
 ·clear hno
  go_enter Tryz.func68,Tryz.ntmps68
  go_wp2_with fail
  refine HREC.out.mono ?_
  rintro e w1 ⟨rfl,hb1⟩
  have hba:=hb1.alloc hb1.size (.cells #[.string r.name,.int .i64 r.mode,.int .i64 r.t,.int .i64 r.l,.int .i64 r.size,.int .i64 r.epoch,.slice r.sa r.sn r.sc,.slice r.na r.nn r.nc] 127)
  have HT2:=hid (HT.out.keeps hba (Nat.le_refl _))
  go_wp2_with (go_at_call 77;refine (atCount_any p _ _ 14 0 _ HI.out (by decide) HT2.out .hit).mono ?_;rintro e w3 ⟨ev,rfl,hch,hb3⟩)
  go_ret
  exact ⟨_,rfl,hch,hba.trans (hb3.mono hba.size)⟩
 ·have h1:(r.sn:Int)≤p:=by omega
  clear hno
  go_enter Tryz.func68,Tryz.ntmps68
  go_wp2_with fail
  refine HREC.out.mono ?_
  rintro e w1 ⟨rfl,hb1⟩
  have hba:=hb1.alloc hb1.size (.cells #[.string r.name,.int .i64 r.mode,.int .i64 r.t,.int .i64 r.l,.int .i64 r.size,.int .i64 r.epoch,.slice r.sa r.sn r.sc,.slice r.na r.nn r.nc] 127)
  have HT2:=hid (HT.out.keeps hba (Nat.le_refl _))
  go_wp2_with (go_at_call 77;refine (atCount_any p _ _ 14 0 _ HI.out (by decide) HT2.out .hit).mono ?_;rintro e w3 ⟨ev,rfl,hch,hb3⟩)
  go_ret
  exact ⟨_,rfl,hch,hba.trans (hb3.mono hba.size)⟩
set_option maxRecDepth 100000 in
theorem vobjects_crash (V:Nat) (w:World) (c5:w.cell? ⟨V,5,none⟩=some (.bool true)) :
  Calls Tryz.prog 56 #[.pointer (some ⟨V,0,none⟩)] w fun e w'=>e=.returned (.slice none 0 0)∧w'=w:=by
 have HC:=hid (check_crashed V _ c5)
 clear c5
 go_enter Tryz.func56,Tryz.ntmps56
 go_wp2_with (go_at_call 70;refine HC.out.mono ?_;rintro e w0 ⟨rfl,rfl⟩)
 go_ret
 exact ⟨rfl,rfl⟩
set_option maxRecDepth 100000 in
theorem cobjects_crash (C V:Nat) (w:World) (h:Cf w C V) (c5:w.cell? ⟨V,5,none⟩=some (.bool true)) :
  Calls Tryz.prog 37 #[.pointer (some ⟨C,0,none⟩)] w fun e w'=>e=.returned (.slice none 0 0)∧w'=w:=by
 have c0:w.cell? ⟨C,0,none⟩=some (.pointer (some ⟨V,0,none⟩)):=by rw [cells_at h];rfl
 have HV:=hid (vobjects_crash V w c5)
 clear h c5
 go_enter Tryz.func37,Tryz.ntmps37
 go_wp2_with fail
 refine HV.out.mono ?_
 rintro e w1 ⟨rfl,rfl⟩
 go_wp2_with fail
 go_loopw [12] (fun u wr=>u=.int .i64 0∧wr=w1) (fun _ _=>0)
 case atStart=>exact ⟨rfl,rfl⟩
 case round =>
  obtain ⟨rfl,rfl⟩:=hrel
  go_wp2_with fail
  go_ret
  exact ⟨rfl,rfl⟩
set_option maxRecDepth 100000 in
theorem cdelete_no (C V d:Nat) (k:Int) (nm:ByteArray) (w:World) (h:Cf w C V) (hd:d≤10) (hE:ErrType w)
  (hv:Calls Tryz.prog 40 #[.pointer (some ⟨V,0,none⟩),.string nm] w fun e w'=>∃ev,e=.returned ev∧Chain w' k d ev∧Below w.heap.size w w') :
  Calls Tryz.prog 18 #[.pointer (some ⟨C,0,none⟩),.string nm] w fun e w'=>e=.returned (.int .i64 k)∧Below w.heap.size w w':=by
 have c0:w.cell? ⟨C,0,none⟩=some (.pointer (some ⟨V,0,none⟩)):=by rw [cells_at h];rfl
 have HV:=hid hv
 have HE:=hid hE
 clear h hv hE
 go_enter Tryz.func18,Tryz.ntmps18
 go_wp2_with fail
 refine HV.out.mono ?_
 rintro e w1 ⟨ev,rfl,hch,hb1⟩
 have HNU:=hid (number_chain k w1 d ev hch hd (HE.out.keeps hb1 (Nat.le_refl _)))
 obtain ⟨te,ve,rfl⟩:=hch.shape
 clear hch
 go_wp2_with (go_at_call 36;refine HNU.out.mono ?_;rintro e w2 ⟨rfl,hb2⟩)
 go_ret
 exact ⟨rfl,hb1.trans (hb2.mono hb1.size)⟩
set_option maxRecDepth 100000 in
theorem crefresh_no (C V d:Nat) (k:Int) (nm tape:ByteArray) (w:World) (h:Cf w C V) (hd:d≤10) (hE:ErrType w)
  (hv:Calls Tryz.prog 39 #[.pointer (some ⟨V,0,none⟩),.string nm,.string tape] w fun e w'=>∃ev,e=.returned ev∧Chain w' k d ev∧Below w.heap.size w w') :
  Calls Tryz.prog 17 #[.pointer (some ⟨C,0,none⟩),.string nm,.string tape] w fun e w'=>e=.returned (.int .i64 k)∧Below w.heap.size w w':=by
 have c0:w.cell? ⟨C,0,none⟩=some (.pointer (some ⟨V,0,none⟩)):=by rw [cells_at h];rfl
 have HV:=hid hv
 have HE:=hid hE
 clear h hv hE
 go_enter Tryz.func17,Tryz.ntmps17
 go_wp2_with fail
 refine HV.out.mono ?_
 rintro e w1 ⟨ev,rfl,hch,hb1⟩
 have HNU:=hid (number_chain k w1 d ev hch hd (HE.out.keeps hb1 (Nat.le_refl _)))
 obtain ⟨te,ve,rfl⟩:=hch.shape
 clear hch
 go_wp2_with (go_at_call 36;refine HNU.out.mono ?_;rintro e w2 ⟨rfl,hb2⟩)
 go_ret
 exact ⟨rfl,hb1.trans (hb2.mono hb1.size)⟩
set_option maxRecDepth 100000 in
theorem cspoil_no (C V d:Nat) (k:Int) (i p:Int) (nm:ByteArray) (b:UInt8) (w:World) (h:Cf w C V) (hd:d≤10) (hE:ErrType w)
  (hv:Calls Tryz.prog 42 #[.pointer (some ⟨V,0,none⟩),.int .i64 i,.string nm,.int .i64 p,.int .u8 b.toNat] w fun e w'=>∃ev,e=.returned ev∧Chain w' k d ev∧Below w.heap.size w w') :
  Calls Tryz.prog 20 #[.pointer (some ⟨C,0,none⟩),.int .i64 i,.string nm,.int .i64 p,.int .u8 b.toNat] w fun e w'=>e=.returned (.int .i64 k)∧Below w.heap.size w w':=by
 have c0:w.cell? ⟨C,0,none⟩=some (.pointer (some ⟨V,0,none⟩)):=by rw [cells_at h];rfl
 have HV:=hid hv
 have HE:=hid hE
 clear h hv hE
 go_enter Tryz.func20,Tryz.ntmps20
 go_wp2_with fail
 refine HV.out.mono ?_
 rintro e w1 ⟨ev,rfl,hch,hb1⟩
 have HNU:=hid (number_chain k w1 d ev hch hd (HE.out.keeps hb1 (Nat.le_refl _)))
 obtain ⟨te,ve,rfl⟩:=hch.shape
 clear hch
 go_wp2_with (go_at_call 36;refine HNU.out.mono ?_;rintro e w2 ⟨rfl,hb2⟩)
 go_ret
 exact ⟨rfl,hb1.trans (hb2.mono hb1.size)⟩
set_option maxRecDepth 100000 in
theorem crecover_no (C V d:Nat) (k:Int) (_x:Unit) (w:World) (h:Cf w C V) (hd:d≤10) (hE:ErrType w)
  (hv:Calls Tryz.prog 45 #[.pointer (some ⟨V,0,none⟩)] w fun e w'=>∃ev,e=.returned ev∧Chain w' k d ev∧Below w.heap.size w w') :
  Calls Tryz.prog 22 #[.pointer (some ⟨C,0,none⟩)] w fun e w'=>e=.returned (.int .i64 k)∧Below w.heap.size w w':=by
 have c0:w.cell? ⟨C,0,none⟩=some (.pointer (some ⟨V,0,none⟩)):=by rw [cells_at h];rfl
 have HV:=hid hv
 have HE:=hid hE
 clear h hv hE
 go_enter Tryz.func22,Tryz.ntmps22
 go_wp2_with fail
 refine HV.out.mono ?_
 rintro e w1 ⟨ev,rfl,hch,hb1⟩
 have HNU:=hid (number_chain k w1 d ev hch hd (HE.out.keeps hb1 (Nat.le_refl _)))
 obtain ⟨te,ve,rfl⟩:=hch.shape
 clear hch
 go_wp2_with (go_at_call 36;refine HNU.out.mono ?_;rintro e w2 ⟨rfl,hb2⟩)
 go_ret
 exact ⟨rfl,hb1.trans (hb2.mono hb1.size)⟩
set_option maxRecDepth 100000 in
set_option maxHeartbeats 1000000 in
theorem refreshed_full (V:Nat) (t l size epoch:Nat) (nm tape:ByteArray) (w:World) (he:100≤epoch) (he2:epoch≤1000) (hT:Tab w) :
  Calls Tryz.prog 62 #[.pointer (some ⟨V,0,none⟩),.agg #[.string nm,.int .i64 0,.int .i64 t,.int .i64 l,.int .i64 size,.int .i64 epoch],.string tape] w fun e w' =>
   ∃ev,e=.returned (.tuple #[.slice none 0 0,ev])∧Chain w' 6 1 ev∧Below w.heap.size w w':=by
 have hba:=(Below.refl w.heap.size w).alloc (Nat.le_refl _) (.cells #[.string nm,.int .i64 0,.int .i64 t,.int .i64 l,.int .i64 size,.int .i64 epoch] 65)
 have HT:=hid (hT.keeps hba (Nat.le_refl _))
 have HI:=hid (show I64 (epoch:Int) by unfold I64;omega)
 have he':(100:Int)≤(epoch:Int):=by omega
 clear hT
 go_enter Tryz.func62,Tryz.ntmps62
 go_wp2_with (go_at_call 77;refine (atCount_any (epoch:Int) _ _ 6 0 _ HI.out (by decide) HT.out .hit).mono ?_;rintro e w2 ⟨e2,rfl,hch,hb2⟩)
 go_ret2
 exact ⟨_,rfl,hch,hba.trans (hb2.mono (by simp))⟩
set_option maxRecDepth 100000 in
set_option maxHeartbeats 1000000 in
theorem settle_of (V key n B bc:Nat) (sp:Nat→Nat) (f:ByteArray) (s:Nat) (w:World) (Post:Value→World→Prop) (h:Va w V key n B 0 bc sp) (hn1:1≤n) (hn8:n≤8)
  (hcut:Calls Tryz.prog 81 #[.pointer (some ⟨V,0,none⟩)] w fun e w'=>e=.returned (.tuple #[.string f,.int .i64 s,.nilIface])∧Below w.heap.size w w')
  (hwrite:∀w' g,Below w.heap.size w w'→w.heap.size≤g→w'.heap[g]?=some (.cells (recs (List.replicate n (RecV.bare f 0 0 0 0 0))).toArray 127)→Calls Tryz.prog 59 #[.pointer (some ⟨V,0,none⟩),.int .i64 s,.slice (some ⟨g,0,none⟩) n n] w' fun e w''=>∃v,e=.returned v∧Post v w'') :
  Calls Tryz.prog 52 #[.pointer (some ⟨V,0,none⟩)] w fun e w'=>∃v,e=.returned v∧Post v w':=by
 have HC:=hid hcut
 have HW:=hid hwrite
 have HV:=hid h
 clear hcut hwrite h
 go_enter Tryz.func52,Tryz.ntmps52
 go_wp2_with fail
 refine HC.out.mono ?_
 rintro e w1 ⟨rfl,hb1⟩
 have HE:=hid (everywhere_any V key n B bc sp f 0 0 0 0 0 w1 (HV.out.keeps hb1 (Nat.le_refl _)) hn1 hn8)
 go_wp2_with fail
 refine HE.out.mono ?_
 rintro e w2 ⟨g,rfl,hg,hh,hb2⟩
 have HWW:=hid (HW.out w2 g (hb1.trans (hb2.mono hb1.size)) (by have:=hb1.size;omega) hh)
 clear hh
 go_wp2_with fail
 refine HWW.out.mono ?_
 rintro e w3 ⟨v,rfl,hp⟩
 have HP:=hid hp
 clear hp
 go_wp2_with fail
 go_ret
 exact ⟨_,rfl,HP.out⟩
set_option maxRecDepth 100000 in
theorem settle_no (V d:Nat) (k:Int) (x:ByteArray) (s:Nat) (w:World)
  (hcut:Calls Tryz.prog 81 #[.pointer (some ⟨V,0,none⟩)] w fun e w'=>∃ev,e=.returned (.tuple #[.string x,.int .i64 s,ev])∧Chain w' k d ev∧Below w.heap.size w w') :
  Calls Tryz.prog 52 #[.pointer (some ⟨V,0,none⟩)] w fun e w'=>∃ev,e=.returned ev∧Chain w' k d ev∧Below w.heap.size w w':=by
 have HC:=hid hcut
 clear hcut
 go_enter Tryz.func52,Tryz.ntmps52
 go_wp2_with fail
 refine HC.out.mono ?_
 rintro e w1 ⟨ev,rfl,hch,hb1⟩
 have HCH:=hid hch
 obtain ⟨te,ve,rfl⟩:=hch.shape
 clear hch
 go_wp2_with fail
 go_ret
 exact ⟨_,rfl,HCH.out,hb1⟩
set_option maxRecDepth 100000 in
theorem vrecover_down (V d:Nat) (k:Int) (w:World)
  (hu:Calls Tryz.prog 63 #[.pointer (some ⟨V,0,none⟩)] w fun e w'=>∃ev,e=.returned ev∧Chain w' k d ev∧Below w.heap.size w w') :
  Calls Tryz.prog 45 #[.pointer (some ⟨V,0,none⟩)] w fun e w'=>∃ev,e=.returned ev∧Chain w' k (d+1) ev∧Below w.heap.size w w':=by
 have HU:=hid hu
 clear hu
 go_enter Tryz.func45,Tryz.ntmps45
 go_wp2_with fail
 refine HU.out.mono ?_
 rintro e w1 ⟨ev,rfl,hch,hb1⟩
 have HCH:=hid hch
 obtain ⟨te,ve,rfl⟩:=hch.shape
 clear hch
 go_wp2_with (go_at_call 53;refine (at_chain _ _ k d _ HCH.out).mono ?_;rintro e w3 ⟨e3,rfl,hch3,hb3⟩)
 go_ret
 exact ⟨_,rfl,hch3,hb1.trans (hb3.mono hb1.size)⟩
set_option maxRecDepth 100000 in
theorem vrecover_idle (V:Nat) (w:World) (c5:w.cell? ⟨V,5,none⟩=some (.bool false))
  (hu:Calls Tryz.prog 63 #[.pointer (some ⟨V,0,none⟩)] w fun e w'=>e=.returned .nilIface∧w'=w) :
  Calls Tryz.prog 45 #[.pointer (some ⟨V,0,none⟩)] w fun e w'=>e=.returned .nilIface∧w'=w:=by
 have HU:=hid hu
 have HC:=hid (check_fine V w c5)
 clear hu c5
 go_enter Tryz.func45,Tryz.ntmps45
 go_wp2_with fail
 refine HU.out.mono ?_
 rintro e w1 ⟨rfl,rfl⟩
 go_wp2_with (go_at_call 70;refine HC.out.mono ?_;rintro e w0 ⟨rfl,rfl⟩)
 go_ret
 exact ⟨rfl,rfl⟩
def penNew (w:World) (V:Nat) (done:Int):World:=(((w.setCell ⟨V,2,none⟩ (.int .i64 done)).setCell ⟨V,3,none⟩ (.bool false)).setCell ⟨V,4,none⟩ (.int .i64 0)).setCell ⟨V,5,none⟩ (.bool false)
theorem penNew_vp {w:World} {V key n B bc:Nat} {sp:Nat→Nat} {p:Pen} (h:Vp w V key n B bc sp p) (hBV:B≠V):Vp (penNew w V p.done) V key n B bc sp ⟨p.done,false,0,false⟩:=by
 obtain ⟨h1,L,hL,hLi⟩:=h
 refine ⟨?_,L,?_,hLi⟩
 ·unfold penNew
  rw [cells_set _ (cells_set _ (cells_set _ (cells_set _ h1)))]
  rfl
 ·unfold penNew
  rw [Below.heap_setCell _ _ _ _ hBV,Below.heap_setCell _ _ _ _ hBV,Below.heap_setCell _ _ _ _ hBV,Below.heap_setCell _ _ _ _ hBV]
  exact hL
theorem penNew_spared (w:World) (V:Nat) (done:Int):Spared (fun b=>b=V) w (penNew w V done) :=
 ((((Spared.refl (fun b=>b=V) w).setCell (p:=⟨V,2,none⟩) rfl _).setCell (p:=⟨V,3,none⟩) rfl _).setCell (p:=⟨V,4,none⟩) rfl _).setCell (p:=⟨V,5,none⟩) rfl _
set_option maxRecDepth 100000 in
set_option maxHeartbeats 1000000 in
theorem vrecover_go (V key n B bc:Nat) (sp:Nat→Nat) (p:Pen) (w:World) (Post:World→Prop) (h:Vp w V key n B bc sp p) (hcr:p.crashed=true)
  (hu:Calls Tryz.prog 63 #[.pointer (some ⟨V,0,none⟩)] w fun e w'=>e=.returned .nilIface∧w'=w)
  (hs:Calls Tryz.prog 52 #[.pointer (some ⟨V,0,none⟩)] (penNew w V p.done) fun e w'=>∃v,e=.returned v∧v=.nilIface∧Post w') :
  Calls Tryz.prog 45 #[.pointer (some ⟨V,0,none⟩)] w fun e w'=>e=.returned .nilIface∧Post w':=by
 have hp:=h.hp
 have c2:w.cell? ⟨V,2,none⟩=some (.int .i64 p.done):=by rw [cells_at hp];rfl
 have c3:w.cell? ⟨V,3,none⟩=some (.bool p.crashes):=by rw [cells_at hp];rfl
 have c4:w.cell? ⟨V,4,none⟩=some (.int .i64 p.ahead):=by rw [cells_at hp];rfl
 have c5:w.cell? ⟨V,5,none⟩=some (.bool p.crashed):=by rw [cells_at hp];rfl
 have f2:w.frozen? ⟨V,2,none⟩=false:=cells_fz hp
 have f3:w.frozen? ⟨V,3,none⟩=false:=cells_fz hp
 have f4:w.frozen? ⟨V,4,none⟩=false:=cells_fz hp
 have f5:w.frozen? ⟨V,5,none⟩=false:=cells_fz hp
 have HU:=hid hu
 have HC:=hid (check_crashed V w (by rw [c5,hcr]))
 have HS:=hid hs
 unfold penNew at HS
 clear hu hs h hp hcr
 go_enter Tryz.func45,Tryz.ntmps45
 go_wp2_with fail
 refine HU.out.mono ?_
 rintro e w1 ⟨rfl,rfl⟩
 go_wp2_with (go_at_call 70;refine HC.out.mono ?_;rintro e w0 ⟨rfl,rfl⟩)
 refine HS.out.mono ?_
 rintro e w2 ⟨v,rfl,rfl,hpost⟩
 have HP:=hid hpost
 clear hpost
 go_wp2_with (go_at_call 53;refine (at_nil _ _).mono ?_;rintro e w3 ⟨rfl,rfl⟩)
 go_ret
 exact ⟨rfl,HP.out⟩
set_option maxRecDepth 100000 in
theorem vcrashAt_any (V key n B bc:Nat) (sp:Nat→Nat) (p:Pen) (z:Int) (w:World) (h:Vp w V key n B bc sp p) (hBV:B≠V) :
  Calls Tryz.prog 48 #[.pointer (some ⟨V,0,none⟩),.int .i64 z] w fun e w'=>e=.returned (.tuple #[])∧Vp w' V key n B bc sp ⟨p.done,decide (0≤z),z,p.crashed⟩∧Spared (fun b=>b=V) w w':=by
 have hp:=h.hp
 have c3:w.cell? ⟨V,3,none⟩=some (.bool p.crashes):=by rw [cells_at hp];rfl
 have c4:w.cell? ⟨V,4,none⟩=some (.int .i64 p.ahead):=by rw [cells_at hp];rfl
 have f3:w.frozen? ⟨V,3,none⟩=false:=cells_fz hp
 have f4:w.frozen? ⟨V,4,none⟩=false:=cells_fz hp
 have HV:=hid h
 have fin:∀b:Bool,Vp ((w.setCell ⟨V,3,none⟩ (.bool b)).setCell ⟨V,4,none⟩ (.int .i64 z)) V key n B bc sp ⟨p.done,b,z,p.crashed⟩∧Spared (fun b=>b=V) w ((w.setCell ⟨V,3,none⟩ (.bool b)).setCell ⟨V,4,none⟩ (.int .i64 z)):=by
  intro b
  refine ⟨?_,((Spared.refl (fun b=>b=V) w).setCell (p:=⟨V,3,none⟩) rfl _).setCell (p:=⟨V,4,none⟩) rfl _⟩
  obtain ⟨h1,L,hL,hLi⟩:=HV.out
  refine ⟨?_,L,?_,hLi⟩
  ·rw [cells_set _ (cells_set _ h1)]
   rfl
  ·rw [Below.heap_setCell _ _ _ _ hBV,Below.heap_setCell _ _ _ _ hBV]
   exact hL
 have FIN:=hid fin
 clear h hp fin
 by_cases h0:0≤z
 ·rw [decide_eq_true h0]
  go_enter Tryz.func48,Tryz.ntmps48
  go_wp2
  exact bodyPost_end (by simp [results,Tryz.results48,go_sem]) rfl ⟨rfl,FIN.out true⟩
 ·rw [decide_eq_false h0]
  go_enter Tryz.func48,Tryz.ntmps48
  go_wp2
  exact bodyPost_end (by simp [results,Tryz.results48,go_sem]) rfl ⟨rfl,FIN.out false⟩
set_option maxRecDepth 100000 in
theorem ccrashAt_of (C V:Nat) (z:Int) (w:World) (R:World→Prop) (h:Cf w C V)
  (hv:Calls Tryz.prog 48 #[.pointer (some ⟨V,0,none⟩),.int .i64 z] w fun e w'=>e=.returned (.tuple #[])∧R w') :
  Calls Tryz.prog 31 #[.pointer (some ⟨C,0,none⟩),.int .i64 z] w fun e w'=>e=.returned (.tuple #[])∧R w':=by
 have c0:w.cell? ⟨C,0,none⟩=some (.pointer (some ⟨V,0,none⟩)):=by rw [cells_at h];rfl
 have HV:=hid hv
 clear h hv
 go_enter Tryz.func31,Tryz.ntmps31
 go_wp2_with fail
 refine HV.out.mono ?_
 rintro e w1 ⟨rfl,hr⟩
 have HR:=hid hr
 clear hr
 go_wp2_with fail
 exact bodyPost_end (by simp [results,Tryz.results31,go_sem]) rfl ⟨rfl,HR.out⟩
set_option maxRecDepth 100000 in
theorem crecover_nil (C V:Nat) (_x:Unit) (w:World) (R:World→Prop) (h:Cf w C V)
  (hv:Calls Tryz.prog 45 #[.pointer (some ⟨V,0,none⟩)] w fun e w'=>e=.returned .nilIface∧R w') :
  Calls Tryz.prog 22 #[.pointer (some ⟨C,0,none⟩)] w fun e w'=>e=.returned (.int .i64 0)∧R w':=by
 have c0:w.cell? ⟨C,0,none⟩=some (.pointer (some ⟨V,0,none⟩)):=by rw [cells_at h];rfl
 have HV:=hid hv
 clear h hv
 go_enter Tryz.func22,Tryz.ntmps22
 go_wp2_with fail
 refine HV.out.mono ?_
 rintro e w1 ⟨rfl,hr⟩
 have HR:=hid hr
 clear hr
 go_wp2_with (go_at_call 36;refine (number_nil _).mono ?_;rintro e w2 ⟨rfl,rfl⟩)
 go_ret
 exact ⟨rfl,HR.out⟩
set_option maxRecDepth 100000 in
set_option maxHeartbeats 2000000 in
theorem refreshed_gen (V key n B bc:Nat) (sp:Nat→Nat) (mode t l size epoch:Nat) (nm tape:ByteArray) (P:Nat→List UInt8) (m:Nat) (hmn:m≤n) (w:World) (h:Rdy w V key n B bc sp) (hup:∀i,i<n→w.cell? ⟨sp i,0,none⟩=some (.bool false)) (hlt0:∀i,i<n→sp i<w.heap.size)
  (hp:IsPlan mode t l n) (hm0:mode=0) (he:epoch<100) (hz:size≤60) (hl:Cof.ngroups mode t l size≤60) (hP:∀i,i<m→(P i).length=Cof.ngroups mode t l size) (htp:Cof.tsize mode t*Cof.ngroups mode t l size≤tape.size) (hT:Tab w)
  (hpc:∀i,i<m→∀w',Below w.heap.size w w'→Tab w'→Calls Tryz.prog 94 #[.pointer (some ⟨V,0,none⟩),.int .i64 i,.agg #[.string nm,.int .i64 mode,.int .i64 t,.int .i64 l,.int .i64 size,.int .i64 epoch]] w' fun e w'' =>
   ∃pv,e=.returned (.tuple #[pv,.nilIface])∧w''.ownsRow w'.heap.size 5 1 pv (Cof.ngroups mode t l size) (bs (P i))∧Below w'.heap.size w' w'')
  (hpb:m<n→∀w',Below w.heap.size w w'→Tab w'→Calls Tryz.prog 94 #[.pointer (some ⟨V,0,none⟩),.int .i64 m,.agg #[.string nm,.int .i64 mode,.int .i64 t,.int .i64 l,.int .i64 size,.int .i64 epoch]] w' fun e w'' =>
   ∃ev,e=.returned (.tuple #[.slice none 0 0,ev])∧Chain w'' 12 2 ev∧Below w'.heap.size w' w'') :
  Calls Tryz.prog 62 #[.pointer (some ⟨V,0,none⟩),.agg #[.string nm,.int .i64 mode,.int .i64 t,.int .i64 l,.int .i64 size,.int .i64 epoch],.string tape] w fun e w' =>
   (m=n∧∃g,e=.returned (.tuple #[.slice (some ⟨g,0,none⟩) n n,.nilIface])∧RdRows w' (some ⟨g,0,none⟩) ((List.range n).map fun i=>Cof.sumRow (P i) ((Cof.split (List.replicate size 0) mode t l n tape.data.toList).getD i []))∧Below w.heap.size w w') ∨
   (m<n∧∃ev,e=.returned (.tuple #[.slice none 0 0,ev])∧Chain w' 12 2 ev∧Below w.heap.size w w'):=by
 have hba:=(Below.refl w.heap.size w).alloc (Nat.le_refl _) (.cells #[.string nm,.int .i64 mode,.int .i64 t,.int .i64 l,.int .i64 size,.int .i64 epoch] 65)
 have HREP:=hid (Tryz.strings_Repeat ⟨#[0]⟩ size (w.alloc (.cells #[.string nm,.int .i64 mode,.int .i64 t,.int .i64 l,.int .i64 size,.int .i64 epoch] 65)) (by omega) (by show 1*size≤_;omega))
 obtain ⟨nz,hnz⟩:∃nz:ByteArray,nz=⟨(Lib.repeatL (⟨#[0]⟩:ByteArray).data.toList size).toArray⟩:=⟨_,rfl⟩
 rw [←hnz] at HREP
 have hnl:nz.data.toList=List.replicate size 0:=by rw [hnz];simp [repeat_zero]
 have hns:nz.size=size:=by show nz.data.size=size;rw [←Array.length_toList,hnl];simp
 have HSP:=hid (fun w'=>cutSplit_ok mode t l n nz tape w' hp (by omega) (by rw [hns];exact htp))
 rw [hnl] at HSP
 have hZl:(Cof.split (List.replicate size 0) mode t l n tape.data.toList).length=n:=split_length _ _ _ _ _ _
 have hZr:∀i,i<n→((Cof.split (List.replicate size 0) mode t l n tape.data.toList).getD i []).length=Cof.ngroups mode t l size:=fun i hi=>by
  rw [split_len hp _ _ i hi (by simpa using htp)];simp
 generalize Cof.split (List.replicate size 0) mode t l n tape.data.toList=Z at *
 have hn8:=hp.n8
 have HR:=hid h
 have HPC:=hid hpc
 have HPB:=hid hpb
 have HUP:=hid hup
 have HLT:=hid hlt0
 have HT:=hid hT
 have HZL:=hid hZl
 have HZR:=hid hZr
 have HPL:=hid hP
 obtain ⟨ng,hng⟩:∃ng,ng=Cof.ngroups mode t l size:=⟨_,rfl⟩
 rw [←hng] at HPC HZR HPL hl
 have q1:((mode:Int) == 1)=false:=by rw [hm0];rfl
 have q2:¬(100:Int)≤(epoch:Int):=by omega
 clear h hp hm0 hz hP htp hT hnz hnl hns hZl hZr hng hpc hpb hup hlt0
 go_enter Tryz.func62,Tryz.ntmps62
 go_wp2_with fail
 refine HREP.out.mono ?_
 rintro e w1 ⟨rfl,hb1⟩
 have hb01:Below w.heap.size w w1:=hba.trans (hb1.mono (by simp))
 have hz1:w.heap.size<w1.heap.size:=by have:=hb1.size;simp at this;omega
 have HOB:=hid (show w1.heap[w.heap.size]?=some (.cells #[.string nm,.int .i64 mode,.int .i64 t,.int .i64 l,.int .i64 size,.int .i64 epoch] 65) from (hb1.block _ (by simp)).trans (alloc_at _ _))
 have o1:w1.cell? ⟨w.heap.size,1,none⟩=some (.int .i64 mode):=by rw [cells_at HOB.out];rfl
 have o2:w1.cell? ⟨w.heap.size,2,none⟩=some (.int .i64 t):=by rw [cells_at HOB.out];rfl
 have o3:w1.cell? ⟨w.heap.size,3,none⟩=some (.int .i64 l):=by rw [cells_at HOB.out];rfl
 have HR1:=hid (HR.out.keeps hb01 (Nat.le_refl _))
 have c1:=HR1.out.va.c1
 have lV:=HR1.out.va.lt
 go_wp2_with fail
 go_region_held3 (fun w'=>w'.cell? ⟨V,1,none⟩=some (.slice (some ⟨B,0,none⟩) n bc)∧w'.cell? ⟨w.heap.size,1,none⟩=some (.int .i64 mode)∧w'.cell? ⟨w.heap.size,2,none⟩=some (.int .i64 t)∧w'.cell? ⟨w.heap.size,3,none⟩=some (.int .i64 l)) (first | exact ⟨c1,o1,o2,o3⟩|exact D2.out | go_keep)
  (first | (go_at_call 88;refine (HSP.out _).mono ?_;rintro e w2 ⟨g,rfl,hrows,hb2,hown⟩;(have hb12:Below w1.heap.size w1 w2:=(Below.refl w1.heap.size w1).drew.trans hb2);(have D2:=hid (show w2.cell? ⟨V,1,none⟩=some (.slice (some ⟨B,0,none⟩) n bc)∧w2.cell? ⟨w.heap.size,1,none⟩=some (.int .i64 mode)∧w2.cell? ⟨w.heap.size,2,none⟩=some (.int .i64 t)∧w2.cell? ⟨w.heap.size,3,none⟩=some (.int .i64 l) from ⟨(hb12.cell lV).trans c1,(hb12.cell hz1).trans o1,(hb12.cell hz1).trans o2,(hb12.cell hz1).trans o3⟩));(have HROWS:=hid hrows);(have HOWN:=hid hown);clear hrows hown))
 have hb02:=hb01.trans (hb12.mono hb01.size)
 have HAU:=hid (allUp_yes V key n B 0 bc sp w2 (HR1.out.va.keeps hb12 (Nat.le_refl _)) hn8 (fun i hi=>(hb02.cell (HLT.out i hi)).trans (HUP.out i hi)))
 have HOB2:=hid (show w2.heap[w.heap.size]?=_ from (hb12.block _ hz1).trans HOB.out)
 obtain ⟨vs0,hrow0,hrest0⟩:=own_rows (fun i=>Cof.sumRow (P i) (Z.getD i [])) HOWN.out HROWS.out HZL.out
 have HI0:=hid (And.intro hrow0 hrest0)
 have hgz:=(hrow0.own.lt g rfl)
 have hgw:w1.heap.size≤g:=by have h1:=hgz.1;simp at h1;omega
 clear hrow0 hrest0
 go_wp2_with (go_at_call 63;refine HAU.out.mono ?_;rintro e w3 ⟨rfl,rfl⟩)
 go_loopw [54] (fun u wr=>∃(k:Nat) (vq:List Value),k≤m∧u=.int .i64 k∧Rows wr w1.heap.size g n k 44 (fun i=>Cof.sumRow (P i) (Z.getD i [])) vq∧(∀(j:Nat) (v:Value),k≤j→vq[j]?=some v→∃a' c',v=.slice a' (Z.getD j []).length c'∧Rd wr a' (bs (Z.getD j [])))∧Below w1.heap.size w1 wr) (fun u _=>n-(intOf u).toNat)
 case atStart=>exact ⟨0,vs0,Nat.zero_le _,rfl,HI0.out.1,fun j v _ hv=>HI0.out.2 j v hv,hb12⟩
 case round =>
  obtain ⟨k,vq,hkn,rfl,hrow,hrest,hbr⟩:=hrel
  by_cases hlt:k<m
  ·have hb0r:=hb01.trans (hbr.mono hb01.size)
   have HOBR:=hid (show wr.heap[w.heap.size]?=_ from (hbr.block _ hz1).trans HOB.out)
   have o0:wr.cell? ⟨w.heap.size,0,none⟩=some (.string nm):=by rw [cells_at HOBR.out];rfl
   have o1:wr.cell? ⟨w.heap.size,1,none⟩=some (.int .i64 mode):=by rw [cells_at HOBR.out];rfl
   have o2:wr.cell? ⟨w.heap.size,2,none⟩=some (.int .i64 t):=by rw [cells_at HOBR.out];rfl
   have o3:wr.cell? ⟨w.heap.size,3,none⟩=some (.int .i64 l):=by rw [cells_at HOBR.out];rfl
   have o4:wr.cell? ⟨w.heap.size,4,none⟩=some (.int .i64 size):=by rw [cells_at HOBR.out];rfl
   have o5:wr.cell? ⟨w.heap.size,5,none⟩=some (.int .i64 epoch):=by rw [cells_at HOBR.out];rfl
   have HPI:=hid (HPC.out k hlt wr hb0r (HT.out.keeps hb0r (Nat.le_refl _)))
   have HROW:=hid hrow
   have HREST:=hid hrest
   have hlt':(k:Int)<(n:Int):=by omega
   clear hrow hrest
   go_wp2_with fail
   refine HPI.out.mono ?_
   rintro e w4 ⟨pv,rfl,hpo,hb4⟩
   obtain ⟨pa,pc,rfl,hprd⟩:=owns_rd_size hpo
   have hrow4:=HROW.out.kept hb4 (Nat.le_refl _)
   obtain ⟨zv,hzv⟩:∃zv,vq[k]?=some zv:=⟨_,List.getElem?_eq_getElem (by have:=(block_of_owns HROW.out.own).2.2;omega)⟩
   obtain ⟨za,zc,rfl,hzrd⟩:=HREST.out k zv (Nat.le_refl _) hzv
   have cg:w4.cell? ⟨g,k,none⟩=some (.slice za (Z.getD k []).length zc):=by rw [hrow4.own.cellAt k (by omega)];exact hzv
   have HZRD:=hid (hzrd.below hb4 (Nat.le_refl _))
   have HPRD:=hid hprd
   have HZK:=hid (HZR.out k (by omega))
   obtain ⟨zl,hzl⟩:∃zl,zl=(Z.getD k []).length:=⟨_,rfl⟩
   rw [←hzl] at cg HZK
   have HZLL:=hid hzl
   have HSUM:=hid (sumB pa za pc zc ng zl (P k) (Z.getD k []) w4 (HPL.out k hlt).symm HZLL.out HPRD.out HZRD.out (by omega) (by rw [HZK.out];omega))
   have HR4:=hid hrow4
   have hg4:=(hrow4.own.lt g rfl).2
   clear hpo hprd hzrd hzl hrow4 hzv
   go_wp2_with fail
   refine HSUM.out.mono ?_
   rintro e w5 ⟨g5,l5,rfl,hl5,hrd5,hb5⟩
   have hrow5:=HR4.out.kept hb5 (Nat.le_refl _)
   have cg5:w5.cell? ⟨g,k,none⟩=some (.slice za zl zc):=(hb5.cell hg4).trans cg
   have fg5:=hrow5.own.frozenAt k
   have HN5:=hid (hrow5.next (a:=some ⟨g5,0,none⟩) (l:=l5) (cap:=l5) hl5 hrd5)
   have HR5:=hid hrow5
   have hb45:=hb4.trans (hb5.mono hb4.size)
   clear hrow5 hl5 hrd5 cg
   go_wp2_with fail
   go_roundw
   case rel =>
    refine ⟨k+1,_,by omega,by go_num,HN5.out,fun j v hj hv=>?_,(hbr.trans (hb45.mono hbr.size)).setCell (by show w1.heap.size≤g;exact hgw) _⟩
    rw [List.getElem?_set,if_neg (by omega)] at hv
    obtain ⟨a',c',h1,h2⟩:=HREST.out j v (by omega) hv
    exact ⟨a',c',h1,(h2.below hb45 (Nat.le_refl _)).setCell_other (block_of_owns HR5.out.own).1 HR5.out.shape _⟩
   case measure=>simp [intOf];omega
  ·have hkk:k=m:=by omega
   subst hkk
   by_cases hkn2:k=n
   ·subst hkn2
    have HF:=hid hrow.full
    clear hrow hrest
    go_wp2
    go_ret2
    first | exact .inl ⟨rfl,g,rfl,HF.out,hb01.trans (hbr.mono hb01.size)⟩|exact ⟨g,rfl,HF.out,hb01.trans (hbr.mono hb01.size)⟩
   ·have hb0r:=hb01.trans (hbr.mono hb01.size)
    have hltn:k<n:=by omega
    have HOBR:=hid (show wr.heap[w.heap.size]?=_ from (hbr.block _ hz1).trans HOB.out)
    have o0:wr.cell? ⟨w.heap.size,0,none⟩=some (.string nm):=by rw [cells_at HOBR.out];rfl
    have o1:wr.cell? ⟨w.heap.size,1,none⟩=some (.int .i64 mode):=by rw [cells_at HOBR.out];rfl
    have o2:wr.cell? ⟨w.heap.size,2,none⟩=some (.int .i64 t):=by rw [cells_at HOBR.out];rfl
    have o3:wr.cell? ⟨w.heap.size,3,none⟩=some (.int .i64 l):=by rw [cells_at HOBR.out];rfl
    have o4:wr.cell? ⟨w.heap.size,4,none⟩=some (.int .i64 size):=by rw [cells_at HOBR.out];rfl
    have o5:wr.cell? ⟨w.heap.size,5,none⟩=some (.int .i64 epoch):=by rw [cells_at HOBR.out];rfl
    have HPI:=hid (HPB.out hltn wr hb0r (HT.out.keeps hb0r (Nat.le_refl _)))
    have hlt':(k:Int)<(n:Int):=by omega
    clear hrow hrest
    go_wp2_with fail
    refine HPI.out.mono ?_
    rintro e w4 ⟨ev,rfl,hch,hb4⟩
    have HCH:=hid hch
    obtain ⟨te,ve,rfl⟩:=hch.shape
    clear hch
    go_wp2_with fail
    go_ret2
    exact .inr ⟨hltn,_,rfl,HCH.out,hb0r.trans (hb4.mono hb0r.size)⟩
set_option maxRecDepth 100000 in
set_option maxHeartbeats 1000000 in
theorem refreshed_tape (V key n B bc:Nat) (sp:Nat→Nat) (mode t l size epoch:Nat) (nm tape:ByteArray) (w:World) (h:Rdy w V key n B bc sp) (hp:IsPlan mode t l n) (hm0:mode=0) (he:epoch<100) (hz:size≤60) (htp:tape.size<Cof.tsize mode t*Cof.ngroups mode t l size) (hT:Tab w) :
  Calls Tryz.prog 62 #[.pointer (some ⟨V,0,none⟩),.agg #[.string nm,.int .i64 mode,.int .i64 t,.int .i64 l,.int .i64 size,.int .i64 epoch],.string tape] w fun e w' =>
   ∃ev,e=.returned (.tuple #[.slice none 0 0,ev])∧Chain w' 7 2 ev∧Below w.heap.size w w':=by
 have hba:=(Below.refl w.heap.size w).alloc (Nat.le_refl _) (.cells #[.string nm,.int .i64 mode,.int .i64 t,.int .i64 l,.int .i64 size,.int .i64 epoch] 65)
 have HREP:=hid (Tryz.strings_Repeat ⟨#[0]⟩ size (w.alloc (.cells #[.string nm,.int .i64 mode,.int .i64 t,.int .i64 l,.int .i64 size,.int .i64 epoch] 65)) (by omega) (by show 1*size≤_;omega))
 obtain ⟨nz,hnz⟩:∃nz:ByteArray,nz=⟨(Lib.repeatL (⟨#[0]⟩:ByteArray).data.toList size).toArray⟩:=⟨_,rfl⟩
 rw [←hnz] at HREP
 have hnl:nz.data.toList=List.replicate size 0:=by rw [hnz];simp [repeat_zero]
 have hns:nz.size=size:=by show nz.data.size=size;rw [←Array.length_toList,hnl];simp
 have HSP:=hid (fun w' hT'=>cutSplit_tape mode t l n nz tape w' hT' hp (by omega) (by rw [hns];exact htp))
 have HR:=hid h
 have HT:=hid hT
 have hn8:=h.n8
 have q1:((mode:Int) == 1)=false:=by rw [hm0];rfl
 have q2:¬(100:Int)≤(epoch:Int):=by omega
 clear h hp hm0 hz htp hT hnz hnl hns
 go_enter Tryz.func62,Tryz.ntmps62
 go_wp2_with fail
 refine HREP.out.mono ?_
 rintro e w1 ⟨rfl,hb1⟩
 have hb01:Below w.heap.size w w1:=hba.trans (hb1.mono (by simp))
 have hz1:w.heap.size<w1.heap.size:=by have:=hb1.size;simp at this;omega
 have HOB:=hid (show w1.heap[w.heap.size]?=some (.cells #[.string nm,.int .i64 mode,.int .i64 t,.int .i64 l,.int .i64 size,.int .i64 epoch] 65) from (hb1.block _ (by simp)).trans (alloc_at _ _))
 have o1:w1.cell? ⟨w.heap.size,1,none⟩=some (.int .i64 mode):=by rw [cells_at HOB.out];rfl
 have o2:w1.cell? ⟨w.heap.size,2,none⟩=some (.int .i64 t):=by rw [cells_at HOB.out];rfl
 have o3:w1.cell? ⟨w.heap.size,3,none⟩=some (.int .i64 l):=by rw [cells_at HOB.out];rfl
 have HR1:=hid (HR.out.keeps hb01 (Nat.le_refl _))
 have c1:=HR1.out.va.c1
 have lV:=HR1.out.va.lt
 have HT1:=hid (HT.out.keeps hb01 (Nat.le_refl _))
 go_wp2_with fail
 go_region_held3 (fun w'=>w'.cell? ⟨V,1,none⟩=some (.slice (some ⟨B,0,none⟩) n bc)∧w'.cell? ⟨w.heap.size,1,none⟩=some (.int .i64 mode)∧w'.cell? ⟨w.heap.size,2,none⟩=some (.int .i64 t)∧w'.cell? ⟨w.heap.size,3,none⟩=some (.int .i64 l)) (first | exact ⟨c1,o1,o2,o3⟩|exact D2.out | go_keep)
  (first | (go_at_call 88;refine (HSP.out _ (HT1.out.keeps (Below.refl _ _).drew (Nat.le_refl _))).mono ?_;rintro e w2 ⟨ev,rfl,hch,hb2⟩;(have hb12:Below w1.heap.size w1 w2:=(Below.refl w1.heap.size w1).drew.trans hb2);(have D2:=hid (show w2.cell? ⟨V,1,none⟩=some (.slice (some ⟨B,0,none⟩) n bc)∧w2.cell? ⟨w.heap.size,1,none⟩=some (.int .i64 mode)∧w2.cell? ⟨w.heap.size,2,none⟩=some (.int .i64 t)∧w2.cell? ⟨w.heap.size,3,none⟩=some (.int .i64 l) from ⟨(hb12.cell lV).trans c1,(hb12.cell hz1).trans o1,(hb12.cell hz1).trans o2,(hb12.cell hz1).trans o3⟩));(have HCH:=hid hch);obtain ⟨te,ve,rfl⟩:=hch.shape;clear hch))
 have hb02:=hb01.trans (hb12.mono hb01.size)
 go_wp2_with fail
 go_ret2
 exact ⟨_,rfl,HCH.out,hb02⟩
set_option maxRecDepth 100000 in
set_option maxHeartbeats 1000000 in
theorem refreshed_down (V key n B bc:Nat) (sp:Nat→Nat) (dn:Nat→Bool) (mode t l size epoch:Nat) (nm tape:ByteArray) (w:World) (h:Rdy w V key n B bc sp) (hp:IsPlan mode t l n) (hm0:mode=0) (he:epoch<100) (hz:size≤60) (htp:Cof.tsize mode t*Cof.ngroups mode t l size≤tape.size) (hT:Tab w)
  (hup:∀i,i<n→w.cell? ⟨sp i,0,none⟩=some (.bool (dn i))) (hlt:∀i,i<n→sp i<w.heap.size) (hd:∃i,i<n∧dn i=true) :
  Calls Tryz.prog 62 #[.pointer (some ⟨V,0,none⟩),.agg #[.string nm,.int .i64 mode,.int .i64 t,.int .i64 l,.int .i64 size,.int .i64 epoch],.string tape] w fun e w' =>
   ∃ev,e=.returned (.tuple #[.slice none 0 0,ev])∧Chain w' 8 1 ev∧Below w.heap.size w w':=by
 have hba:=(Below.refl w.heap.size w).alloc (Nat.le_refl _) (.cells #[.string nm,.int .i64 mode,.int .i64 t,.int .i64 l,.int .i64 size,.int .i64 epoch] 65)
 have HREP:=hid (Tryz.strings_Repeat ⟨#[0]⟩ size (w.alloc (.cells #[.string nm,.int .i64 mode,.int .i64 t,.int .i64 l,.int .i64 size,.int .i64 epoch] 65)) (by omega) (by show 1*size≤_;omega))
 obtain ⟨nz,hnz⟩:∃nz:ByteArray,nz=⟨(Lib.repeatL (⟨#[0]⟩:ByteArray).data.toList size).toArray⟩:=⟨_,rfl⟩
 rw [←hnz] at HREP
 have hnl:nz.data.toList=List.replicate size 0:=by rw [hnz];simp [repeat_zero]
 have hns:nz.size=size:=by show nz.data.size=size;rw [←Array.length_toList,hnl];simp
 have HSP:=hid (fun w'=>cutSplit_ok mode t l n nz tape w' hp (by omega) (by rw [hns];exact htp))
 rw [hnl] at HSP
 generalize Cof.split (List.replicate size 0) mode t l n tape.data.toList=Z at *
 have HUP:=hid hup
 have HLT:=hid hlt
 have HD:=hid hd
 have HR:=hid h
 have HT:=hid hT
 have hn8:=h.n8
 have q1:((mode:Int) == 1)=false:=by rw [hm0];rfl
 have q2:¬(100:Int)≤(epoch:Int):=by omega
 clear h hp hm0 hz htp hT hnz hnl hns hup hlt hd
 go_enter Tryz.func62,Tryz.ntmps62
 go_wp2_with fail
 refine HREP.out.mono ?_
 rintro e w1 ⟨rfl,hb1⟩
 have hb01:Below w.heap.size w w1:=hba.trans (hb1.mono (by simp))
 have hz1:w.heap.size<w1.heap.size:=by have:=hb1.size;simp at this;omega
 have HOB:=hid (show w1.heap[w.heap.size]?=some (.cells #[.string nm,.int .i64 mode,.int .i64 t,.int .i64 l,.int .i64 size,.int .i64 epoch] 65) from (hb1.block _ (by simp)).trans (alloc_at _ _))
 have o1:w1.cell? ⟨w.heap.size,1,none⟩=some (.int .i64 mode):=by rw [cells_at HOB.out];rfl
 have o2:w1.cell? ⟨w.heap.size,2,none⟩=some (.int .i64 t):=by rw [cells_at HOB.out];rfl
 have o3:w1.cell? ⟨w.heap.size,3,none⟩=some (.int .i64 l):=by rw [cells_at HOB.out];rfl
 have HR1:=hid (HR.out.keeps hb01 (Nat.le_refl _))
 have c1:=HR1.out.va.c1
 have lV:=HR1.out.va.lt
 have HT1:=hid (HT.out.keeps hb01 (Nat.le_refl _))
 go_wp2_with fail
 go_region_held3 (fun w'=>w'.cell? ⟨V,1,none⟩=some (.slice (some ⟨B,0,none⟩) n bc)∧w'.cell? ⟨w.heap.size,1,none⟩=some (.int .i64 mode)∧w'.cell? ⟨w.heap.size,2,none⟩=some (.int .i64 t)∧w'.cell? ⟨w.heap.size,3,none⟩=some (.int .i64 l)) (first | exact ⟨c1,o1,o2,o3⟩|exact D2.out | go_keep)
  (first | (go_at_call 88;refine (HSP.out _).mono ?_;rintro e w2 ⟨g,rfl,_,hb2,_⟩;(have hb12:Below w1.heap.size w1 w2:=(Below.refl w1.heap.size w1).drew.trans hb2);(have D2:=hid (show w2.cell? ⟨V,1,none⟩=some (.slice (some ⟨B,0,none⟩) n bc)∧w2.cell? ⟨w.heap.size,1,none⟩=some (.int .i64 mode)∧w2.cell? ⟨w.heap.size,2,none⟩=some (.int .i64 t)∧w2.cell? ⟨w.heap.size,3,none⟩=some (.int .i64 l) from ⟨(hb12.cell lV).trans c1,(hb12.cell hz1).trans o1,(hb12.cell hz1).trans o2,(hb12.cell hz1).trans o3⟩))))
 have hb02:=hb01.trans (hb12.mono hb01.size)
 have HAU:=hid (allUp_no V key n B 0 bc sp dn w2 (HR1.out.va.keeps hb12 (Nat.le_refl _)) hn8 (fun i hi=>(hb02.cell (HLT.out i hi)).trans (HUP.out i hi)) HD.out (HT.out.keeps hb02 (Nat.le_refl _)))
 go_wp2_with fail
 refine HAU.out.mono ?_
 rintro e w3 ⟨ev,rfl,hch,hb3⟩
 have HCH:=hid hch
 obtain ⟨te,ve,rfl⟩:=hch.shape
 clear hch
 go_wp2_with fail
 go_ret2
 exact ⟨_,rfl,HCH.out,hb02.trans (hb3.mono hb02.size)⟩
end Go.Proofs.YtcegdgmbponapabGreatDoor
namespace Go.Proofs.YtcegdgmbponapabGreatDoor
open Go.RowKit
structure Ask (w:World) (C V key n B bc:Nat) (sp:Nat→Nat) (dn:Nat→Bool) (vs:Nat→Value) (rss:Nat→List RecV):Prop where
 cf:Cf w C V
 rd:Rdy w V key n B bc sp
 st:∀i,i<n→Sto w (sp i) (dn i) (vs i) (rss i)
 tb:Tab w
 et:ErrType w
theorem Ask.keeps {w w':World} {C V key n B bc:Nat} {sp:Nat→Nat} {dn:Nat→Bool} {vs:Nat→Value} {rss:Nat→List RecV} (h:Ask w C V key n B bc sp dn vs rss) (hb:Below w.heap.size w w'):Ask w' C V key n B bc sp dn vs rss :=
 ⟨h.cf.keeps (Spared.ofBelow (own:=fun _=>False) hb (Nat.le_refl _)) (fun h=>h),h.rd.keeps hb (Nat.le_refl _),fun i hi=>(h.st i hi).keeps (Spared.ofBelow (own:=fun _=>False) hb (Nat.le_refl _)) (fun h=>h) (fun _ _ h=>h),h.tb.keeps hb (Nat.le_refl _),h.et.keeps hb (Nat.le_refl _)⟩
section
variable {w:World} {C V key n B bc:Nat} {sp:Nat→Nat} {dn:Nat→Bool} {vs:Nat→Value} {rss:Nat→List RecV}
theorem Ask.put_of (h:Ask w C V key n B bc sp dn vs rss) (m t l k:Int) (d:Nat) (hd:d≤5) (nm vl tape:ByteArray)
  (hc:∀w',Ask w' C V key n B bc sp dn vs rss→Calls Tryz.prog 58 #[.pointer (some ⟨V,0,none⟩),.agg #[.string nm,.int .i64 m,.int .i64 t,.int .i64 l,.int .i64 vl.size,.int .i64 0],.string vl,.string tape] w' fun e w''=>∃a x c ev,e=.returned (.tuple #[.slice a x c,ev])∧Chain w'' k d ev∧Below w'.heap.size w' w'') :
  Calls Tryz.prog 16 #[.pointer (some ⟨C,0,none⟩),.string nm,.string vl,.agg #[.int .i64 m,.int .i64 t,.int .i64 l],.string tape] w fun e w'=>e=.returned (.int .i64 k)∧Below w.heap.size w w' :=
 cput_no C V m t l k (d+1) nm vl tape w h.cf (by omega) h.et fun w1 hb1=>vput_no V m t l k d nm vl tape w1 fun w2 hb2=>hc w2 ((h.keeps hb1).keeps hb2)
theorem Ask.put_new (h:Ask w C V key n B bc sp dn vs rss) (m t l k:Int) (d:Nat) (hd:d≤5) (nm vl tape:ByteArray)
  (hc:∀w',Ask w' C V key n B bc sp dn vs rss→Calls Tryz.prog 87 #[.pointer (some ⟨V,0,none⟩),.agg #[.string nm,.int .i64 m,.int .i64 t,.int .i64 l,.int .i64 vl.size,.int .i64 0]] w' fun e w''=>∃ev,e=.returned ev∧Chain w'' k d ev∧Below w'.heap.size w' w'') :
  Calls Tryz.prog 16 #[.pointer (some ⟨C,0,none⟩),.string nm,.string vl,.agg #[.int .i64 m,.int .i64 t,.int .i64 l],.string tape] w fun e w'=>e=.returned (.int .i64 k)∧Below w.heap.size w w' :=
 h.put_of m t l k d hd nm vl tape fun w1 h1=>cut_new V m t l vl.size k d nm vl tape w1 fun w2 hb2=>hc w2 (h1.keeps hb2)
theorem Ask.put_twice (h:Ask w C V key n B bc sp dn vs rss) (mode t l:Nat) (nm vl tape:ByteArray) (h1:1≤nm.size) (h12:nm.size≤12) (hp:IsPlan mode t l n) (hz:vl.size≤60) (hyes:hasName (rss 0) nm=true) :
  Calls Tryz.prog 16 #[.pointer (some ⟨C,0,none⟩),.string nm,.string vl,.agg #[.int .i64 mode,.int .i64 t,.int .i64 l],.string tape] w fun e w'=>e=.returned (.int .i64 5)∧Below w.heap.size w w' :=
 h.put_new mode t l 5 1 (by decide) nm vl tape fun w1 h2=>checkNew_twice V key n B bc sp (dn 0) (vs 0) (rss 0) mode t l vl.size nm w1 h2.rd (h2.st 0 h.rd.n1) hyes hp hz h1 h12 (ngroups_le hp vl.size hz)
theorem Ask.put_full (h:Ask w C V key n B bc sp dn vs rss) (mode t l:Nat) (nm vl tape:ByteArray) (h1:1≤nm.size) (h12:nm.size≤12) (hp:IsPlan mode t l n) (hz:vl.size≤60) (hno:hasName (rss 0) nm=false) (hfull:¬(rss 0).length<10) :
  Calls Tryz.prog 16 #[.pointer (some ⟨C,0,none⟩),.string nm,.string vl,.agg #[.int .i64 mode,.int .i64 t,.int .i64 l],.string tape] w fun e w'=>e=.returned (.int .i64 6)∧Below w.heap.size w w' :=
 h.put_new mode t l 6 1 (by decide) nm vl tape fun w1 h2=>checkNew_full V key n B bc sp (dn 0) (vs 0) (rss 0) mode t l vl.size nm w1 h2.rd (h2.st 0 h.rd.n1) hno hfull hp hz h1 h12 (ngroups_le hp vl.size hz) h2.tb
theorem Ask.ups (h:Ask w C V key n B bc sp dn vs rss) (i:Nat) (hi:i<n):w.cell? ⟨sp i,0,none⟩=some (.bool (dn i)):=by rw [cells_at (h.st i hi).hp];rfl
theorem Ask.slt (h:Ask w C V key n B bc sp dn vs rss) (i:Nat) (hi:i<n):sp i<w.heap.size:=cells_lt (h.st i hi).hp
theorem Ask.put_down (h:Ask w C V key n B bc sp dn vs rss) (mode t l:Nat) (nm vl tape:ByteArray) (h1:1≤nm.size) (h12:nm.size≤12) (hp:IsPlan mode t l n) (hz:vl.size≤60) (hno:hasName (rss 0) nm=false) (hfew:(rss 0).length<10) (htp:Cof.tsize mode t*Cof.ngroups mode t l vl.size≤tape.size) (hd:∃i,i<n∧dn i=true) :
  Calls Tryz.prog 16 #[.pointer (some ⟨C,0,none⟩),.string nm,.string vl,.agg #[.int .i64 mode,.int .i64 t,.int .i64 l],.string tape] w fun e w'=>e=.returned (.int .i64 8)∧Below w.heap.size w w' :=
 h.put_of mode t l 8 1 (by decide) nm vl tape fun w1 h2=>cut_down V key n B bc sp dn (vs 0) (rss 0) mode t l vl.size nm vl tape w1 h2.rd (h2.st 0 h.rd.n1) hno hfew hp hz rfl h1 h12 (ngroups_le hp vl.size hz) htp h2.tb h2.ups h2.slt hd
/-! The other calls. -/
theorem Ask.allUp_no (h:Ask w C V key n B bc sp dn vs rss) (hd:∃i,i<n∧dn i=true) :
  Calls Tryz.prog 63 #[.pointer (some ⟨V,0,none⟩)] w fun e w'=>∃ev,e=.returned ev∧Chain w' 8 1 ev∧Below w.heap.size w w' :=
 Go.Proofs.YtcegdgmbponapabGreatDoor.allUp_no V key n B 0 bc sp dn w h.rd.va h.rd.n8 h.ups hd h.tb
theorem Ask.object_none (h:Ask w C V key n B bc sp dn vs rss) (nm:ByteArray) (hno:hasName (rss 0) nm=false) :
  Calls Tryz.prog 61 #[.pointer (some ⟨V,0,none⟩),.string nm] w fun e w'=>∃ev,e=.returned (.tuple #[noObj,ev])∧Chain w' 9 1 ev∧Below w.heap.size w w':=by
 obtain ⟨a,c,_,hst⟩:=(h.st 0 h.rd.n1).st
 exact object_no V key n B bc sp (dn 0) a c (rss 0) nm w h.rd hst hno
theorem Ask.object_some (h:Ask w C V key n B bc sp dn vs rss) (nm:ByteArray) (r:RecV) (hyes:hasName (rss 0) nm=true) (hr:r=(rss 0)[posOf (rss 0) nm]!) :
  Calls Tryz.prog 61 #[.pointer (some ⟨V,0,none⟩),.string nm] w fun e w'=>e=.returned (.tuple #[.agg #[.string r.name,.int .i64 r.mode,.int .i64 r.t,.int .i64 r.l,.int .i64 r.size,.int .i64 r.epoch],.nilIface])∧Below w.heap.size w w':=by
 obtain ⟨a,c,_,hst⟩:=(h.st 0 h.rd.n1).st
 exact object_yes V key n B bc sp (dn 0) a c (rss 0) r nm w h.rd hst hyes hr
theorem Ask.get_none (h:Ask w C V key n B bc sp dn vs rss) (nm:ByteArray) (hno:hasName (rss 0) nm=false) :
  Calls Tryz.prog 23 #[.pointer (some ⟨C,0,none⟩),.string nm] w fun e w'=>e=.returned (.tuple #[.string ByteArray.empty,.int .i64 9])∧Below w.heap.size w w' :=
 cget_no C V 2 9 nm w h.cf (by decide) h.et (vget_no V 1 9 nm w (h.object_none nm hno))
theorem Ask.delete_none (h:Ask w C V key n B bc sp dn vs rss) (nm:ByteArray) (hno:hasName (rss 0) nm=false) :
  Calls Tryz.prog 18 #[.pointer (some ⟨C,0,none⟩),.string nm] w fun e w'=>e=.returned (.int .i64 9)∧Below w.heap.size w w' :=
 cdelete_no C V 2 9 nm w h.cf (by decide) h.et (vdelete_no V 1 9 nm w (h.object_none nm hno))
theorem Ask.delete_down (h:Ask w C V key n B bc sp dn vs rss) (nm:ByteArray) (hyes:hasName (rss 0) nm=true) (hd:∃i,i<n∧dn i=true) :
  Calls Tryz.prog 18 #[.pointer (some ⟨C,0,none⟩),.string nm] w fun e w'=>e=.returned (.int .i64 8)∧Below w.heap.size w w' :=
 cdelete_no C V 2 8 nm w h.cf (by decide) h.et (vdelete_down V 1 8 nm _ _ _ _ _ _ w (h.object_some nm _ hyes rfl) fun _ hb=>(h.keeps hb).allUp_no hd)
theorem Ask.refresh_of (h:Ask w C V key n B bc sp dn vs rss) (nm tape:ByteArray) (r:RecV) (k:Int) (d:Nat) (hd:d≤5) (hyes:hasName (rss 0) nm=true) (hr:r=(rss 0)[posOf (rss 0) nm]!)
  (hu:∀w',Ask w' C V key n B bc sp dn vs rss→Calls Tryz.prog 62 #[.pointer (some ⟨V,0,none⟩),.agg #[.string r.name,.int .i64 r.mode,.int .i64 r.t,.int .i64 r.l,.int .i64 r.size,.int .i64 r.epoch],.string tape] w' fun e w''=>∃ev,e=.returned (.tuple #[.slice none 0 0,ev])∧Chain w'' k d ev∧Below w'.heap.size w' w'') :
  Calls Tryz.prog 17 #[.pointer (some ⟨C,0,none⟩),.string nm,.string tape] w fun e w'=>e=.returned (.int .i64 k)∧Below w.heap.size w w' :=
 crefresh_no C V (d+1) k nm tape w h.cf (by omega) h.et (vrefresh_not V d k nm _ tape _ _ _ _ _ w (h.object_some nm r hyes hr) fun w' hb=>hu w' (h.keeps hb))
theorem Ask.refresh_down (h:Ask w C V key n B bc sp dn vs rss) (nm tape:ByteArray) (r:RecV) (hyes:hasName (rss 0) nm=true) (hr:r=(rss 0)[posOf (rss 0) nm]!) (hp:IsPlan r.mode r.t r.l n) (hm0:r.mode=0) (he:r.epoch<100) (hz:r.size≤60) (htp:Cof.tsize r.mode r.t*Cof.ngroups r.mode r.t r.l r.size≤tape.size) (hd:∃i,i<n∧dn i=true) :
  Calls Tryz.prog 17 #[.pointer (some ⟨C,0,none⟩),.string nm,.string tape] w fun e w'=>e=.returned (.int .i64 8)∧Below w.heap.size w w' :=
 h.refresh_of nm tape r 8 1 (by decide) hyes hr fun w' h2=>refreshed_down V key n B bc sp dn r.mode r.t r.l r.size r.epoch r.name tape w' h2.rd hp hm0 he hz htp h2.tb h2.ups h2.slt hd
theorem Ask.spoil_none (h:Ask w C V key n B bc sp dn vs rss) (i:Nat) (p:Int) (nm:ByteArray) (b:UInt8) (hi:i<n) (hno:hasName (rss i) nm=false) :
  Calls Tryz.prog 20 #[.pointer (some ⟨C,0,none⟩),.int .i64 i,.string nm,.int .i64 p,.int .u8 b.toNat] w fun e w'=>e=.returned (.int .i64 9)∧Below w.heap.size w w':=by
 obtain ⟨a,c,_,hst⟩:=(h.st i hi).st
 exact cspoil_no C V 2 9 i p nm b w h.cf (by decide) h.et (vspoil_not V key n B bc sp i 1 9 p b nm w h.rd hi (sspoil_none (sp i) (dn i) a c (rss i) nm p b w hst hno))
theorem Ask.spoil_place (h:Ask w C V key n B bc sp dn vs rss) (i:Nat) (p:Int) (nm:ByteArray) (b:UInt8) (r:RecV) (hi:i<n) (hyes:hasName (rss i) nm=true) (hr:r=(rss i)[posOf (rss i) nm]!) (hp:I64 p) (hno:p<0∨(r.sn:Int)≤p) :
  Calls Tryz.prog 20 #[.pointer (some ⟨C,0,none⟩),.int .i64 i,.string nm,.int .i64 p,.int .u8 b.toNat] w fun e w'=>e=.returned (.int .i64 14)∧Below w.heap.size w w':=by
 obtain ⟨a,c,_,hst⟩:=(h.st i hi).st
 exact cspoil_no C V 2 14 i p nm b w h.cf (by decide) h.et (vspoil_not V key n B bc sp i 1 14 p b nm w h.rd hi (sspoil_place (sp i) (dn i) a c (rss i) r nm p b w hst hyes hr hp hno h.tb))
end
/-! While the vault is crashed. -/
section
variable {w:World} {C V:Nat}
theorem crash_put (hc:Cf w C V) (hV:V<w.heap.size) (c5:w.cell? ⟨V,5,none⟩=some (.bool true)) (hE:ErrType w) (m t l:Int) (nm vl tape:ByteArray) :
  Calls Tryz.prog 16 #[.pointer (some ⟨C,0,none⟩),.string nm,.string vl,.agg #[.int .i64 m,.int .i64 t,.int .i64 l],.string tape] w fun e w'=>e=.returned (.int .i64 1)∧Below w.heap.size w w' :=
 cput_no C V m t l 1 1 nm vl tape w hc (by decide) hE fun w1 hb1=>vput_no V m t l 1 0 nm vl tape w1 fun w2 hb2=>cut_new V m t l vl.size 1 0 nm vl tape w2 fun w3 hb3 =>
  have hb:Below w.heap.size w w3:=(hb1.trans (hb2.mono hb1.size)).trans (hb3.mono (Nat.le_trans hb1.size hb2.size))
  checkNew_crash V m t l vl.size nm w3 (Nat.lt_of_lt_of_le hV hb.size) ((hb.cell (p:=⟨V,5,none⟩) hV).trans c5)
theorem crash_get (hc:Cf w C V) (hV:V<w.heap.size) (c5:w.cell? ⟨V,5,none⟩=some (.bool true)) (hE:ErrType w) (nm:ByteArray) :
  Calls Tryz.prog 23 #[.pointer (some ⟨C,0,none⟩),.string nm] w fun e w'=>e=.returned (.tuple #[.string ByteArray.empty,.int .i64 1])∧Below w.heap.size w w' :=
 cget_no C V 1 1 nm w hc (by decide) hE (vget_no V 0 1 nm w (object_crash V nm w hV c5))
theorem crash_delete (hc:Cf w C V) (hV:V<w.heap.size) (c5:w.cell? ⟨V,5,none⟩=some (.bool true)) (hE:ErrType w) (nm:ByteArray) :
  Calls Tryz.prog 18 #[.pointer (some ⟨C,0,none⟩),.string nm] w fun e w'=>e=.returned (.int .i64 1)∧Below w.heap.size w w' :=
 cdelete_no C V 1 1 nm w hc (by decide) hE (vdelete_no V 0 1 nm w (object_crash V nm w hV c5))
theorem crash_spoil (hc:Cf w C V) (c5:w.cell? ⟨V,5,none⟩=some (.bool true)) (hE:ErrType w) (i p:Int) (nm:ByteArray) (b:UInt8) :
  Calls Tryz.prog 20 #[.pointer (some ⟨C,0,none⟩),.int .i64 i,.string nm,.int .i64 p,.int .u8 b.toNat] w fun e w'=>e=.returned (.int .i64 1)∧Below w.heap.size w w' :=
 cspoil_no C V 1 1 i p nm b w hc (by decide) hE (vspoil_no V 0 1 i p b nm w (openStore_crash V i w c5))
end
end Go.Proofs.YtcegdgmbponapabGreatDoor