import Derived.Test.YtcegdgmbponapaaGreatDoorPart18
import Derived.Test.YtcegdgmbponapaaGreatDoorPart12
set_option maxRecDepth 100000
set_option maxHeartbeats 4000000
namespace Go.Proofs.YtcegdgmbponapaaGreatDoor
open Go.RowKit
attribute [local go_sem ↓] Go.wp_at_zero Go.wp_at_succ
theorem qe6 (V:Nat) (t l size epoch:Nat) (nm tape:ByteArray) (w:World) :
  Calls Tryz.prog 79 #[.pointer (some ⟨V,0,none⟩),.agg #[.string nm,.int .i64 1,.int .i64 t,.int .i64 l,.int .i64 size,.int .i64 epoch],.string tape] w fun e w' =>
   ∃ev,e=.returned (.tuple #[.slice none 0 0,ev])∧Chain w' 11 1 ev∧Below w.heap.size w w':=by
 have hba:=(Below.refl w.heap.size w).alloc nl (.cells #[.string nm,.int .i64 1,.int .i64 t,.int .i64 l,.int .i64 size,.int .i64 epoch] 55)
 go_enter Tryz.func79,Tryz.ntmps79
 go_wp2_with (go_at_call 78;refine (qav _ _ 11 0 _ .hit).mono ?_;rintro e w2 ⟨e2,rfl,hch,hb2⟩;obtain ⟨te,ve,rfl⟩:=hch.shape)
 go_ret2
 exact ⟨_,rfl,hch,hba.trans (hb2.mono (by simp))⟩
def qfr:Value:=.agg #[.string ByteArray.empty,.int .i64 0,.int .i64 0,.int .i64 0,.int .i64 0,.int .i64 0]
theorem qlk (V:Nat) (nm:ByteArray) (w:World) (hV:V<w.heap.size) (c5:w.cell? ⟨V,5,none⟩=some (.bool true)) :
  Calls Tryz.prog 77 #[.pointer (some ⟨V,0,none⟩),.string nm] w fun e w' =>
   ∃ev,e=.returned (.tuple #[qfr,ev])∧Chain w' 1 0 ev∧Below w.heap.size w w':=by
 have hba:=(Below.refl w.heap.size w).alloc nl (.cells #[.string ByteArray.empty,.int .i64 0,.int .i64 0,.int .i64 0,.int .i64 0,.int .i64 0] 55)
 have HC:=hid (qfx V _ ((hba.cell (p:=⟨V,5,none⟩) hV).trans c5))
 have hVlt:¬V=w.heap.size:=by omega
 clear c5
 unfold qfr
 go_enter Tryz.func77,Tryz.ntmps77
 go_wp2_with (go_at_call 88;refine HC.out.mono ?_;rintro e w0 ⟨rfl,rfl⟩)
 refine bodyPost_ret (v:=.tuple #[.agg #[.string ByteArray.empty,.int .i64 0,.int .i64 0,.int .i64 0,.int .i64 0,.int .i64 0],.iface 136 (.int .i64 1)]) ?_ rfl ⟨_,rfl,.hit,?_⟩
 ·simp [results,Tryz.results77,go_sem]
  rfl
 ·first
  | exact hba
  | exact ((((((hba.setCell nl _).setCell nl _).setCell nl _).setCell nl _).setCell nl _).setCell nl _)
theorem qlx (V d:Nat) (k:Int) (nm:ByteArray) (w:World)
  (ho:Calls Tryz.prog 77 #[.pointer (some ⟨V,0,none⟩),.string nm] w fun e w'=>∃ev,e=.returned (.tuple #[qfr,ev])∧Chain w' k d ev∧Below w.heap.size w w') :
  Calls Tryz.prog 50 #[.pointer (some ⟨V,0,none⟩),.string nm] w fun e w'=>∃ev,e=.returned (.tuple #[.slice none 0 0,ev])∧Chain w' k (d+1) ev∧Below w.heap.size w w':=by
 have HO:=hid ho
 unfold qfr at HO
 clear ho
 go_enter Tryz.func50,Tryz.ntmps50
 go_wp2_with fail
 refine HO.out.mono ?_
 rintro e w1 ⟨ev,rfl,hch,hb1⟩
 have hba:=(Below.refl w1.heap.size w1).alloc nl (.cells #[.string ByteArray.empty,.int .i64 0,.int .i64 0,.int .i64 0,.int .i64 0,.int .i64 0] 55)
 have HCH:=hid (hch.keeps hba nl)
 obtain ⟨te,ve,rfl⟩:=hch.shape
 clear hch
 go_wp2_with (go_at_call 78;refine (qav _ _ k d _ HCH.out).mono ?_;rintro e w2 ⟨e2,rfl,hch2,hb2⟩)
 go_ret2
 have hb02:=hb1.trans (hba.mono hb1.size)
 exact ⟨_,rfl,hch2,hb02.trans (hb2.mono hb02.size)⟩
theorem qiG (V d:Nat) (k:Int) (nm:ByteArray) (w:World)
  (ho:Calls Tryz.prog 77 #[.pointer (some ⟨V,0,none⟩),.string nm] w fun e w'=>∃ev,e=.returned (.tuple #[qfr,ev])∧Chain w' k d ev∧Below w.heap.size w w') :
  Calls Tryz.prog 102 #[.pointer (some ⟨V,0,none⟩),.string nm] w fun e w'=>∃ev,e=.returned ev∧Chain w' k (d+1) ev∧Below w.heap.size w w':=by
 have HO:=hid ho
 unfold qfr at HO
 clear ho
 go_enter Tryz.func102,Tryz.ntmps102
 go_wp2_with fail
 refine HO.out.mono ?_
 rintro e w1 ⟨ev,rfl,hch,hb1⟩
 have hba:=(Below.refl w1.heap.size w1).alloc nl (.cells #[.string ByteArray.empty,.int .i64 0,.int .i64 0,.int .i64 0,.int .i64 0,.int .i64 0] 55)
 have HCH:=hid (hch.keeps hba nl)
 obtain ⟨te,ve,rfl⟩:=hch.shape
 clear hch
 go_wp2_with (go_at_call 78;refine (qav _ _ k d _ HCH.out).mono ?_;rintro e w2 ⟨e2,rfl,hch2,hb2⟩)
 go_ret
 have hb02:=hb1.trans (hba.mono hb1.size)
 exact ⟨_,rfl,hch2,hb02.trans (hb2.mono hb02.size)⟩
theorem qfS (V d:Nat) (k:Int) (nm onm:ByteArray) (m t l size epoch:Int) (w:World)
  (ho:Calls Tryz.prog 77 #[.pointer (some ⟨V,0,none⟩),.string nm] w fun e w'=>e=.returned (.tuple #[.agg #[.string onm,.int .i64 m,.int .i64 t,.int .i64 l,.int .i64 size,.int .i64 epoch],.nilIface])∧Below w.heap.size w w')
  (hu:∀w',Below w.heap.size w w'→Calls Tryz.prog 104 #[.pointer (some ⟨V,0,none⟩)] w' fun e w''=>∃ev,e=.returned ev∧Chain w'' k d ev∧Below w'.heap.size w' w'') :
  Calls Tryz.prog 102 #[.pointer (some ⟨V,0,none⟩),.string nm] w fun e w'=>∃ev,e=.returned ev∧Chain w' k (d+1) ev∧Below w.heap.size w w':=by
 have HO:=hid ho
 have HU:=hid hu
 clear ho hu
 go_enter Tryz.func102,Tryz.ntmps102
 go_wp2_with fail
 refine HO.out.mono ?_
 rintro e w1 ⟨rfl,hb1⟩
 have hba:=hb1.alloc hb1.size (.cells #[.string onm,.int .i64 m,.int .i64 t,.int .i64 l,.int .i64 size,.int .i64 epoch] 55)
 go_wp2_with fail
 refine (HU.out _ hba).mono ?_
 rintro e w2 ⟨ev,rfl,hch,hb2⟩
 have hb02:=hba.trans (hb2.mono hba.size)
 have HCH:=hid hch
 obtain ⟨te,ve,rfl⟩:=hch.shape
 clear hch
 go_wp2_with (go_at_call 78;refine (qav _ _ k d _ HCH.out).mono ?_;rintro e w3 ⟨e3,rfl,hch3,hb3⟩)
 go_ret
 exact ⟨_,rfl,hch3,hb02.trans (hb3.mono hb02.size)⟩
theorem qgM (V d:Nat) (k:Int) (nm tape:ByteArray) (w:World)
  (ho:Calls Tryz.prog 77 #[.pointer (some ⟨V,0,none⟩),.string nm] w fun e w'=>∃ev,e=.returned (.tuple #[qfr,ev])∧Chain w' k d ev∧Below w.heap.size w w') :
  Calls Tryz.prog 45 #[.pointer (some ⟨V,0,none⟩),.string nm,.string tape] w fun e w'=>∃ev,e=.returned ev∧Chain w' k (d+1) ev∧Below w.heap.size w w':=by
 have HO:=hid ho
 unfold qfr at HO
 clear ho
 go_enter Tryz.func45,Tryz.ntmps45
 go_wp2_with fail
 refine HO.out.mono ?_
 rintro e w1 ⟨ev,rfl,hch,hb1⟩
 have hba:=(Below.refl w1.heap.size w1).alloc nl (.cells #[.string ByteArray.empty,.int .i64 0,.int .i64 0,.int .i64 0,.int .i64 0,.int .i64 0] 55)
 have HCH:=hid (hch.keeps hba nl)
 obtain ⟨te,ve,rfl⟩:=hch.shape
 clear hch
 go_wp2_with (go_at_call 78;refine (qav _ _ k d _ HCH.out).mono ?_;rintro e w2 ⟨e2,rfl,hch2,hb2⟩)
 go_ret
 have hb02:=hb1.trans (hba.mono hb1.size)
 exact ⟨_,rfl,hch2,hb02.trans (hb2.mono hb02.size)⟩
theorem qd4 (V d:Nat) (k:Int) (nm onm tape:ByteArray) (m t l size epoch:Nat) (w:World)
  (ho:Calls Tryz.prog 77 #[.pointer (some ⟨V,0,none⟩),.string nm] w fun e w'=>e=.returned (.tuple #[.agg #[.string onm,.int .i64 m,.int .i64 t,.int .i64 l,.int .i64 size,.int .i64 epoch],.nilIface])∧Below w.heap.size w w')
  (hu:∀w',Below w.heap.size w w'→Calls Tryz.prog 79 #[.pointer (some ⟨V,0,none⟩),.agg #[.string onm,.int .i64 m,.int .i64 t,.int .i64 l,.int .i64 size,.int .i64 epoch],.string tape] w' fun e w''=>∃ev,e=.returned (.tuple #[.slice none 0 0,ev])∧Chain w'' k d ev∧Below w'.heap.size w' w'') :
  Calls Tryz.prog 45 #[.pointer (some ⟨V,0,none⟩),.string nm,.string tape] w fun e w'=>∃ev,e=.returned ev∧Chain w' k (d+1) ev∧Below w.heap.size w w':=by
 have HO:=hid ho
 have HU:=hid hu
 clear ho hu
 go_enter Tryz.func45,Tryz.ntmps45
 go_wp2_with fail
 refine HO.out.mono ?_
 rintro e w1 ⟨rfl,hb1⟩
 have hba:=hb1.alloc hb1.size (.cells #[.string onm,.int .i64 m,.int .i64 t,.int .i64 l,.int .i64 size,.int .i64 epoch] 55)
 go_wp2_with fail
 refine (HU.out _ hba).mono ?_
 rintro e w2 ⟨ev,rfl,hch,hb2⟩
 have hb02:=hba.trans (hb2.mono hba.size)
 have HCH:=hid hch
 obtain ⟨te,ve,rfl⟩:=hch.shape
 clear hch
 go_wp2_with (go_at_call 78;refine (qav _ _ k d _ HCH.out).mono ?_;rintro e w3 ⟨e3,rfl,hch3,hb3⟩)
 go_ret
 exact ⟨_,rfl,hch3,hb02.trans (hb3.mono hb02.size)⟩
theorem qhB (V key n B bc:Nat) (sp:Nat→Nat) (i:Int) (w:World) (h:Va w V key n B 0 bc sp) (hi:I64 i) (hno:i<0∨(n:Int)≤i) (hT:Tab w) :
  Calls Tryz.prog 82 #[.pointer (some ⟨V,0,none⟩),.int .i64 i] w fun e w'=>∃ev,e=.returned (.tuple #[.pointer none,ev])∧Chain w' 13 1 ev∧Below w.heap.size w w':=by
 have c1:=h.c1
 have HT:=hid hT
 have HI:=hid hi
 clear h hT hi
 by_cases h0:i<0
 ·clear hno
  go_enter Tryz.func82,Tryz.ntmps82
  go_wp2_with (go_at_call 136;refine (qbL i _ 13 0 _ HI.out HT.out .hit).mono ?_;rintro e w2 ⟨e2,rfl,hch,hb2⟩)
  go_ret2
  exact ⟨_,rfl,hch,hb2⟩
 ·have h1:(n:Int)≤i:=by omega
  clear hno
  go_enter Tryz.func82,Tryz.ntmps82
  go_wp2_with (go_at_call 136;refine (qbL i _ 13 0 _ HI.out HT.out .hit).mono ?_;rintro e w2 ⟨e2,rfl,hch,hb2⟩)
  go_ret2
  exact ⟨_,rfl,hch,hb2⟩
theorem qdB (V key n B bc:Nat) (sp:Nat→Nat) (i:Int) (w:World) (h:Rdy w V key n B bc sp) (hi:I64 i) (hno:i<0∨(n:Int)≤i) (hT:Tab w) :
  Calls Tryz.prog 84 #[.pointer (some ⟨V,0,none⟩),.int .i64 i] w fun e w'=>∃ev,e=.returned (.tuple #[.pointer none,ev])∧Chain w' 13 1 ev∧Below w.heap.size w w':=by
 have HC:=hid (qba V _ h.c5)
 have HS:=hid (qhB V key n B bc sp i w h.va hi hno hT)
 clear h hT
 go_enter Tryz.func84,Tryz.ntmps84
 go_wp2_with (first | (go_at_call 88;refine HC.out.mono ?_;rintro e w0 ⟨rfl,rfl⟩)|(go_at_call 82;refine HS.out.mono ?_;rintro e w1 ⟨ev,rfl,hch,hb1⟩))
 go_ret2
 exact ⟨_,rfl,hch,hb1⟩
theorem vup_no (V key n B bc:Nat) (sp:Nat→Nat) (i:Int) (up:Bool) (w:World) (h:Va w V key n B 0 bc sp) (hi:I64 i) (hno:i<0∨(n:Int)≤i) (hT:Tab w) :
  Calls Tryz.prog 46 #[.pointer (some ⟨V,0,none⟩),.int .i64 i,.bool up] w fun e w'=>∃ev,e=.returned ev∧Chain w' 13 2 ev∧Below w.heap.size w w':=by
 have HS:=hid (qhB V key n B bc sp i w h hi hno hT)
 clear h hT
 go_enter Tryz.func46,Tryz.ntmps46
 go_wp2_with fail
 refine HS.out.mono ?_
 rintro e w1 ⟨ev,rfl,hch,hb1⟩
 have HCH:=hid hch
 obtain ⟨te,ve,rfl⟩:=hch.shape
 clear hch
 go_wp2_with (go_at_call 78;refine (qav _ _ 13 1 _ HCH.out).mono ?_;rintro e w2 ⟨e2,rfl,hch2,hb2⟩)
 go_ret
 exact ⟨_,rfl,hch2,hb1.trans (hb2.mono hb1.size)⟩
theorem qkv (V d:Nat) (k i p:Int) (b:UInt8) (nm:ByteArray) (w:World)
  (ho:Calls Tryz.prog 84 #[.pointer (some ⟨V,0,none⟩),.int .i64 i] w fun e w'=>∃ev,e=.returned (.tuple #[.pointer none,ev])∧Chain w' k d ev∧Below w.heap.size w w') :
  Calls Tryz.prog 49 #[.pointer (some ⟨V,0,none⟩),.int .i64 i,.string nm,.int .i64 p,.int .u8 b.toNat] w fun e w'=>∃ev,e=.returned ev∧Chain w' k (d+1) ev∧Below w.heap.size w w':=by
 have HO:=hid ho
 clear ho
 go_enter Tryz.func49,Tryz.ntmps49
 go_wp2_with fail
 refine HO.out.mono ?_
 rintro e w1 ⟨ev,rfl,hch,hb1⟩
 have HCH:=hid hch
 obtain ⟨te,ve,rfl⟩:=hch.shape
 clear hch
 go_wp2_with (go_at_call 78;refine (qav _ _ k d _ HCH.out).mono ?_;rintro e w2 ⟨e2,rfl,hch2,hb2⟩)
 go_ret
 exact ⟨_,rfl,hch2,hb1.trans (hb2.mono hb1.size)⟩
theorem qeT (V key n B bc:Nat) (sp:Nat→Nat) (i d:Nat) (k p:Int) (b:UInt8) (nm:ByteArray) (w:World) (h:Rdy w V key n B bc sp) (hi:i<n)
  (hs:Calls Tryz.prog 86 #[.pointer (some ⟨sp i,0,none⟩),.string nm,.int .i64 p,.int .u8 b.toNat] w fun e w'=>∃ev,e=.returned ev∧Chain w' k d ev∧Below w.heap.size w w') :
  Calls Tryz.prog 49 #[.pointer (some ⟨V,0,none⟩),.int .i64 i,.string nm,.int .i64 p,.int .u8 b.toNat] w fun e w'=>∃ev,e=.returned ev∧Chain w' k (d+1) ev∧Below w.heap.size w w':=by
 have HO:=hid (qb6 V key n B bc sp i w h hi)
 have HS:=hid hs
 clear h hs
 go_enter Tryz.func49,Tryz.ntmps49
 go_wp2_with (go_at_call 84;refine HO.out.mono ?_;rintro e w0 ⟨rfl,rfl⟩)
 refine HS.out.mono ?_
 rintro e w1 ⟨ev,rfl,hch,hb1⟩
 have HCH:=hid hch
 obtain ⟨te,ve,rfl⟩:=hch.shape
 clear hch
 go_wp2_with (go_at_call 78;refine (qav _ _ k d _ HCH.out).mono ?_;rintro e w2 ⟨e2,rfl,hch2,hb2⟩)
 go_ret
 exact ⟨_,rfl,hch2,hb1.trans (hb2.mono hb1.size)⟩
theorem qhf (S:Nat) (down:Bool) (a:Option Addr) (c:Nat) (rs:List RecV) (nm:ByteArray) (p:Int) (b:UInt8) (w:World) (h:St w S down a c rs) (hno:hasName rs nm=false) :
  Calls Tryz.prog 86 #[.pointer (some ⟨S,0,none⟩),.string nm,.int .i64 p,.int .u8 b.toNat] w fun e w'=>∃ev,e=.returned ev∧Chain w' 9 1 ev∧Below w.heap.size w w':=by
 have HREC:=hid (qef S down a c rs nm w h hno)
 clear h hno
 go_enter Tryz.func86,Tryz.ntmps86
 go_wp2_with fail
 refine HREC.out.mono ?_
 rintro e w1 ⟨ev,rfl,hch,hb1⟩
 have hba:=(Below.refl w1.heap.size w1).alloc nl (.cells #[.string ByteArray.empty,.int .i64 0,.int .i64 0,.int .i64 0,.int .i64 0,.int .i64 0,.slice none 0 0,.slice none 0 0] 152)
 have HCH:=hid (hch.keeps hba nl)
 obtain ⟨te,ve,rfl⟩:=hch.shape
 clear hch
 go_wp2_with fail
 go_ret
 exact ⟨_,rfl,HCH.out,hb1.trans (hba.mono hb1.size)⟩
theorem qfZ (S:Nat) (down:Bool) (a:Option Addr) (c:Nat) (rs:List RecV) (r:RecV) (nm:ByteArray) (p:Int) (b:UInt8) (w:World) (h:St w S down a c rs) (hyes:hasName rs nm=true) (hr:r=rs[qai rs nm]!) (hp:I64 p) (hno:p<0∨(r.sn:Int)≤p) (hT:Tab w) :
  Calls Tryz.prog 86 #[.pointer (some ⟨S,0,none⟩),.string nm,.int .i64 p,.int .u8 b.toNat] w fun e w'=>∃ev,e=.returned ev∧Chain w' 14 1 ev∧Below w.heap.size w w':=by
 have HREC:=hid (qbD S down a c rs r nm w h hyes hr)
 have HT:=hid hT
 have HI:=hid hp
 clear h hyes hr hT hp
 by_cases h0:p<0
 ·clear hno
  go_enter Tryz.func86,Tryz.ntmps86
  go_wp2_with fail
  refine HREC.out.mono ?_
  rintro e w1 ⟨rfl,hb1⟩
  have hba:=hb1.alloc hb1.size (.cells #[.string r.name,.int .i64 r.mode,.int .i64 r.t,.int .i64 r.l,.int .i64 r.size,.int .i64 r.epoch,.slice r.sa r.sn r.sc,.slice r.na r.nn r.nc] 152)
  have HT2:=hid (HT.out.keeps hba nl)
  go_wp2_with (go_at_call 130;refine (qa9 p _ _ 14 0 _ HI.out (by decide) HT2.out .hit).mono ?_;rintro e w3 ⟨ev,rfl,hch,hb3⟩)
  go_ret
  exact ⟨_,rfl,hch,hba.trans (hb3.mono hba.size)⟩
 ·have h1:(r.sn:Int)≤p:=by omega
  clear hno
  go_enter Tryz.func86,Tryz.ntmps86
  go_wp2_with fail
  refine HREC.out.mono ?_
  rintro e w1 ⟨rfl,hb1⟩
  have hba:=hb1.alloc hb1.size (.cells #[.string r.name,.int .i64 r.mode,.int .i64 r.t,.int .i64 r.l,.int .i64 r.size,.int .i64 r.epoch,.slice r.sa r.sn r.sc,.slice r.na r.nn r.nc] 152)
  have HT2:=hid (HT.out.keeps hba nl)
  go_wp2_with (go_at_call 130;refine (qa9 p _ _ 14 0 _ HI.out (by decide) HT2.out .hit).mono ?_;rintro e w3 ⟨ev,rfl,hch,hb3⟩)
  go_ret
  exact ⟨_,rfl,hch,hba.trans (hb3.mono hba.size)⟩
theorem qkr (V d:Nat) (k i:Int) (nm:ByteArray) (w:World)
  (ho:Calls Tryz.prog 84 #[.pointer (some ⟨V,0,none⟩),.int .i64 i] w fun e w'=>∃ev,e=.returned (.tuple #[.pointer none,ev])∧Chain w' k d ev∧Below w.heap.size w w') :
  Calls Tryz.prog 48 #[.pointer (some ⟨V,0,none⟩),.int .i64 i,.string nm] w fun e w'=>∃ev,e=.returned (.tuple #[.slice none 0 0,ev])∧Chain w' k (d+1) ev∧Below w.heap.size w w':=by
 have HO:=hid ho
 clear ho
 go_enter Tryz.func48,Tryz.ntmps48
 go_wp2_with fail
 refine HO.out.mono ?_
 rintro e w1 ⟨ev,rfl,hch,hb1⟩
 have HCH:=hid hch
 obtain ⟨te,ve,rfl⟩:=hch.shape
 clear hch
 go_wp2_with (go_at_call 78;refine (qav _ _ k d _ HCH.out).mono ?_;rintro e w2 ⟨e2,rfl,hch2,hb2⟩)
 go_ret2
 exact ⟨_,rfl,hch2,hb1.trans (hb2.mono hb1.size)⟩
theorem qh1 (V key n B bc:Nat) (sp:Nat→Nat) (i:Nat) (down:Bool) (a:Option Addr) (c:Nat) (rs:List RecV) (nm:ByteArray) (w:World) (h:Rdy w V key n B bc sp) (hi:i<n) (hs:St w (sp i) down a c rs) (hno:hasName rs nm=false) :
  Calls Tryz.prog 48 #[.pointer (some ⟨V,0,none⟩),.int .i64 i,.string nm] w fun e w' =>
   ∃ev,e=.returned (.tuple #[.slice none 0 0,ev])∧Chain w' 9 2 ev∧Below w.heap.size w w':=by
 have HO:=hid (qb6 V key n B bc sp i w h hi)
 have HREC:=hid (qef (sp i) down a c rs nm w hs hno)
 clear h hs hno
 go_enter Tryz.func48,Tryz.ntmps48
 go_wp2_with (go_at_call 84;refine HO.out.mono ?_;rintro e w0 ⟨rfl,rfl⟩)
 refine HREC.out.mono ?_
 rintro e w1 ⟨ev,rfl,hch,hb1⟩
 go_wp2_with fail
 obtain ⟨w2,hw2⟩:∃w2,w2=w1.alloc (.cells #[.string ByteArray.empty,.int .i64 0,.int .i64 0,.int .i64 0,.int .i64 0,.int .i64 0,.slice none 0 0,.slice none 0 0] 152):=⟨_,rfl⟩
 have hb12:Below w0.heap.size w0 w2:=by rw [hw2];exact hb1.alloc hb1.size _
 have HCH:=hid (hch.keeps (show Below w1.heap.size w1 w2 by rw [hw2];exact (Below.refl _ _).alloc nl _) nl)
 have d6:w2.cell? ⟨w1.heap.size,6,none⟩=some (.slice none 0 0):=by rw [hw2];simp
 have hl6:w1.heap.size<w2.heap.size:=by rw [hw2];simp
 obtain ⟨te,ve,rfl⟩:=hch.shape
 rw [←hw2]
 clear hw2 hch
 go_region_held3 (fun w'=>w'.cell? ⟨w1.heap.size,6,none⟩=some (.slice none 0 0)) (first | exact d6 | exact D3.out | go_keep)
  (first | (go_at_call 78;refine (qav _ _ 9 1 _ (HCH.out.keeps (Below.refl _ _).drew nl)).mono ?_;rintro e w3 ⟨e3,rfl,hch3,hb3⟩;(have hb23:Below w2.heap.size w2 w3:=(Below.refl w2.heap.size w2).drew.trans hb3);(have D3:=hid ((hb23.cell (p:=⟨w1.heap.size,6,none⟩) hl6).trans d6));(have HC3:=hid hch3);clear hch3))
 go_wp2
 go_ret2
 exact ⟨_,rfl,HC3.out,hb12.trans (hb23.mono hb12.size)⟩
theorem qeN (C V d:Nat) (k:Int) (nm:ByteArray) (w:World) (h:Cf w C V) (hd:d≤10) (hE:qaJ w)
  (hv:Calls Tryz.prog 102 #[.pointer (some ⟨V,0,none⟩),.string nm] w fun e w'=>∃ev,e=.returned ev∧Chain w' k d ev∧Below w.heap.size w w') :
  Calls Tryz.prog 57 #[.pointer (some ⟨C,0,none⟩),.string nm] w fun e w'=>e=.returned (.int .i64 k)∧Below w.heap.size w w':=by
 have c0:w.cell? ⟨C,0,none⟩=some (.pointer (some ⟨V,0,none⟩)):=cq h rfl
 have HV:=hid hv
 have HE:=hid hE
 clear h hv hE
 go_enter Tryz.func57,Tryz.ntmps57
 go_wp2_with fail
 refine HV.out.mono ?_
 rintro e w1 ⟨ev,rfl,hch,hb1⟩
 have HNU:=hid (qaD k w1 d ev hch hd (HE.out.keeps hb1 nl))
 obtain ⟨te,ve,rfl⟩:=hch.shape
 clear hch
 go_wp2_with (go_at_call 44;refine HNU.out.mono ?_;rintro e w2 ⟨rfl,hb2⟩)
 go_ret
 exact ⟨rfl,hb1.trans (hb2.mono hb1.size)⟩
theorem qcR (C V d:Nat) (k:Int) (nm tape:ByteArray) (w:World) (h:Cf w C V) (hd:d≤10) (hE:qaJ w)
  (hv:Calls Tryz.prog 45 #[.pointer (some ⟨V,0,none⟩),.string nm,.string tape] w fun e w'=>∃ev,e=.returned ev∧Chain w' k d ev∧Below w.heap.size w w') :
  Calls Tryz.prog 17 #[.pointer (some ⟨C,0,none⟩),.string nm,.string tape] w fun e w'=>e=.returned (.int .i64 k)∧Below w.heap.size w w':=by
 have c0:w.cell? ⟨C,0,none⟩=some (.pointer (some ⟨V,0,none⟩)):=cq h rfl
 have HV:=hid hv
 have HE:=hid hE
 clear h hv hE
 go_enter Tryz.func17,Tryz.ntmps17
 go_wp2_with fail
 refine HV.out.mono ?_
 rintro e w1 ⟨ev,rfl,hch,hb1⟩
 have HNU:=hid (qaD k w1 d ev hch hd (HE.out.keeps hb1 nl))
 obtain ⟨te,ve,rfl⟩:=hch.shape
 clear hch
 go_wp2_with (go_at_call 44;refine HNU.out.mono ?_;rintro e w2 ⟨rfl,hb2⟩)
 go_ret
 exact ⟨rfl,hb1.trans (hb2.mono hb1.size)⟩
theorem cup_no (C V d:Nat) (k:Int) (i:Int) (up:Bool) (w:World) (h:Cf w C V) (hd:d≤10) (hE:qaJ w)
  (hv:Calls Tryz.prog 46 #[.pointer (some ⟨V,0,none⟩),.int .i64 i,.bool up] w fun e w'=>∃ev,e=.returned ev∧Chain w' k d ev∧Below w.heap.size w w') :
  Calls Tryz.prog 21 #[.pointer (some ⟨C,0,none⟩),.int .i64 i,.bool up] w fun e w'=>e=.returned (.int .i64 k)∧Below w.heap.size w w':=by
 have c0:w.cell? ⟨C,0,none⟩=some (.pointer (some ⟨V,0,none⟩)):=cq h rfl
 have HV:=hid hv
 have HE:=hid hE
 clear h hv hE
 go_enter Tryz.func21,Tryz.ntmps21
 go_wp2_with fail
 refine HV.out.mono ?_
 rintro e w1 ⟨ev,rfl,hch,hb1⟩
 have HNU:=hid (qaD k w1 d ev hch hd (HE.out.keeps hb1 nl))
 obtain ⟨te,ve,rfl⟩:=hch.shape
 clear hch
 go_wp2_with (go_at_call 44;refine HNU.out.mono ?_;rintro e w2 ⟨rfl,hb2⟩)
 go_ret
 exact ⟨rfl,hb1.trans (hb2.mono hb1.size)⟩
theorem qet (C V d:Nat) (k:Int) (i p:Int) (nm:ByteArray) (b:UInt8) (w:World) (h:Cf w C V) (hd:d≤10) (hE:qaJ w)
  (hv:Calls Tryz.prog 49 #[.pointer (some ⟨V,0,none⟩),.int .i64 i,.string nm,.int .i64 p,.int .u8 b.toNat] w fun e w'=>∃ev,e=.returned ev∧Chain w' k d ev∧Below w.heap.size w w') :
  Calls Tryz.prog 23 #[.pointer (some ⟨C,0,none⟩),.int .i64 i,.string nm,.int .i64 p,.int .u8 b.toNat] w fun e w'=>e=.returned (.int .i64 k)∧Below w.heap.size w w':=by
 have c0:w.cell? ⟨C,0,none⟩=some (.pointer (some ⟨V,0,none⟩)):=cq h rfl
 have HV:=hid hv
 have HE:=hid hE
 clear h hv hE
 go_enter Tryz.func23,Tryz.ntmps23
 go_wp2_with fail
 refine HV.out.mono ?_
 rintro e w1 ⟨ev,rfl,hch,hb1⟩
 have HNU:=hid (qaD k w1 d ev hch hd (HE.out.keeps hb1 nl))
 obtain ⟨te,ve,rfl⟩:=hch.shape
 clear hch
 go_wp2_with (go_at_call 44;refine HNU.out.mono ?_;rintro e w2 ⟨rfl,hb2⟩)
 go_ret
 exact ⟨rfl,hb1.trans (hb2.mono hb1.size)⟩
theorem qgE (C V d:Nat) (k i:Int) (nm:ByteArray) (w:World) (h:Cf w C V) (hd:d≤10) (hE:qaJ w)
  (hv:Calls Tryz.prog 48 #[.pointer (some ⟨V,0,none⟩),.int .i64 i,.string nm] w fun e w'=>∃ev,e=.returned (.tuple #[.slice none 0 0,ev])∧Chain w' k d ev∧Below w.heap.size w w') :
  Calls Tryz.prog 22 #[.pointer (some ⟨C,0,none⟩),.int .i64 i,.string nm] w fun e w'=>e=.returned (.tuple #[.string ByteArray.empty,.int .i64 k])∧Below w.heap.size w w':=by
 have c0:w.cell? ⟨C,0,none⟩=some (.pointer (some ⟨V,0,none⟩)):=cq h rfl
 have HV:=hid hv
 have HE:=hid hE
 clear h hv hE
 go_enter Tryz.func22,Tryz.ntmps22
 go_wp2_with fail
 refine HV.out.mono ?_
 rintro e w1 ⟨ev,rfl,hch,hb1⟩
 have HCH:=hid hch
 clear hch
 go_wp2_with (go_at_call 47;refine (qkh _ _ k d _ HCH.out hd (HE.out.keeps hb1 nl)).mono ?_;rintro e w2 ⟨rfl,hb2⟩)
 go_ret2
 exact ⟨rfl,hb1.trans (hb2.mono hb1.size)⟩
theorem qe8 (V:Nat) (t l size epoch:Nat) (nm tape:ByteArray) (w:World) (he:100≤epoch) (he2:epoch≤1000) (hT:Tab w) :
  Calls Tryz.prog 79 #[.pointer (some ⟨V,0,none⟩),.agg #[.string nm,.int .i64 0,.int .i64 t,.int .i64 l,.int .i64 size,.int .i64 epoch],.string tape] w fun e w' =>
   ∃ev,e=.returned (.tuple #[.slice none 0 0,ev])∧Chain w' 6 1 ev∧Below w.heap.size w w':=by
 have hba:=(Below.refl w.heap.size w).alloc nl (.cells #[.string nm,.int .i64 0,.int .i64 t,.int .i64 l,.int .i64 size,.int .i64 epoch] 55)
 have HT:=hid (hT.keeps hba nl)
 have HI:=hid (show I64 (epoch:Int) by unfold I64;omega)
 have he':(100:Int)≤(epoch:Int):=by omega
 clear hT
 go_enter Tryz.func79,Tryz.ntmps79
 go_wp2_with (go_at_call 130;refine (qa9 (epoch:Int) _ _ 6 0 _ HI.out (by decide) HT.out .hit).mono ?_;rintro e w2 ⟨e2,rfl,hch,hb2⟩)
 go_ret2
 exact ⟨_,rfl,hch,hba.trans (hb2.mono (by simp))⟩
theorem qdh (V key n B bc:Nat) (sp:Nat→Nat) (mode t l size epoch:Nat) (nm tape:ByteArray) (P:Nat→List UInt8) (m:Nat) (hmn:m≤n) (w:World) (h:Rdy w V key n B bc sp) (hup:∀i,i<n→w.cell? ⟨sp i,0,none⟩=some (.bool false)) (hlt0:∀i,i<n→sp i<w.heap.size)
  (hp:qaj mode t l n) (hm0:mode=0) (he:epoch<100) (hz:size≤60) (hl:Cof.ngroups mode t l size≤60) (hP:∀i,i<m→(P i).length=Cof.ngroups mode t l size) (htp:Cof.tsize mode t*Cof.ngroups mode t l size≤tape.size) (hT:Tab w)
  (hpc:∀i,i<m→∀w',Below w.heap.size w w'→Tab w'→Calls Tryz.prog 132 #[.pointer (some ⟨V,0,none⟩),.int .i64 i,.agg #[.string nm,.int .i64 mode,.int .i64 t,.int .i64 l,.int .i64 size,.int .i64 epoch]] w' fun e w'' =>
   ∃pv,e=.returned (.tuple #[pv,.nilIface])∧w''.ownsRow w'.heap.size 5 1 pv (Cof.ngroups mode t l size) (bs (P i))∧Below w'.heap.size w' w'')
  (hpb:m<n→∀w',Below w.heap.size w w'→Tab w'→Calls Tryz.prog 132 #[.pointer (some ⟨V,0,none⟩),.int .i64 m,.agg #[.string nm,.int .i64 mode,.int .i64 t,.int .i64 l,.int .i64 size,.int .i64 epoch]] w' fun e w'' =>
   ∃ev,e=.returned (.tuple #[.slice none 0 0,ev])∧Chain w'' 12 2 ev∧Below w'.heap.size w' w'') :
  Calls Tryz.prog 79 #[.pointer (some ⟨V,0,none⟩),.agg #[.string nm,.int .i64 mode,.int .i64 t,.int .i64 l,.int .i64 size,.int .i64 epoch],.string tape] w fun e w' =>
   (m=n∧∃g,e=.returned (.tuple #[.slice (some ⟨g,0,none⟩) n n,.nilIface])∧qaE w' (some ⟨g,0,none⟩) ((List.range n).map fun i=>Cof.sumRow (P i) ((Cof.split (List.replicate size 0) mode t l n tape.data.toList).getD i []))∧Below w.heap.size w w') ∨
   (m<n∧∃ev,e=.returned (.tuple #[.slice none 0 0,ev])∧Chain w' 12 2 ev∧Below w.heap.size w w'):=by
 have hba:=(Below.refl w.heap.size w).alloc nl (.cells #[.string nm,.int .i64 mode,.int .i64 t,.int .i64 l,.int .i64 size,.int .i64 epoch] 55)
 have HREP:=hid (Tryz.strings_Repeat ⟨#[0]⟩ size (w.alloc (.cells #[.string nm,.int .i64 mode,.int .i64 t,.int .i64 l,.int .i64 size,.int .i64 epoch] 55)) (by omega) (by show 1*size≤_;omega))
 obtain ⟨nz,hnz⟩:∃nz:ByteArray,nz=⟨(Lib.repeatL (⟨#[0]⟩:ByteArray).data.toList size).toArray⟩:=⟨_,rfl⟩
 rw [←hnz] at HREP
 have hnl:nz.data.toList=List.replicate size 0:=by rw [hnz];simp [qcW]
 have hns:nz.size=size:=by show nz.data.size=size;rw [←Array.length_toList,hnl];simp
 have HSP:=hid (fun w'=>qcg mode t l n nz tape w' hp (by omega) (by rw [hns];exact htp))
 rw [hnl] at HSP
 have hZl:(Cof.split (List.replicate size 0) mode t l n tape.data.toList).length=n:=qbm _ _ _ _ _ _
 have hZr:∀i,i<n→((Cof.split (List.replicate size 0) mode t l n tape.data.toList).getD i []).length=Cof.ngroups mode t l size:=fun i hi=>by
  rw [qbJ hp _ _ i hi (by simpa using htp)];simp
 generalize Cof.split (List.replicate size 0) mode t l n tape.data.toList=Z at *
 have hn8:=hp.n8
 have HR:=hid h
 have HPC:=hid hpc
 have HPB:=hid hpb
 have HUP:=hid hup
 have HLT:=hid hlt0
 have HT:=hid hT
 have HZL:=hid hZl
 have HZR:=hid hZr
 have HPL:=hid hP
 obtain ⟨ng,hng⟩:∃ng,ng=Cof.ngroups mode t l size:=⟨_,rfl⟩
 rw [←hng] at HPC HZR HPL hl
 have q1:((mode:Int) == 1)=false:=by rw [hm0];rfl
 have q2:¬(100:Int)≤(epoch:Int):=by omega
 clear h hp hm0 hz hP htp hT hnz hnl hns hZl hZr hng hpc hpb hup hlt0
 go_enter Tryz.func79,Tryz.ntmps79
 go_wp2_with fail
 refine HREP.out.mono ?_
 rintro e w1 ⟨rfl,hb1⟩
 have hb01:Below w.heap.size w w1:=hba.trans (hb1.mono (by simp))
 have hz1:w.heap.size<w1.heap.size:=by have:=hb1.size;simp at this;omega
 have HOB:=hid (show w1.heap[w.heap.size]?=some (.cells #[.string nm,.int .i64 mode,.int .i64 t,.int .i64 l,.int .i64 size,.int .i64 epoch] 55) from (hb1.block _ (by simp)).trans (alloc_at _ _))
 have o1:w1.cell? ⟨w.heap.size,1,none⟩=some (.int .i64 mode):=cq HOB.out rfl
 have o2:w1.cell? ⟨w.heap.size,2,none⟩=some (.int .i64 t):=cq HOB.out rfl
 have o3:w1.cell? ⟨w.heap.size,3,none⟩=some (.int .i64 l):=cq HOB.out rfl
 have HR1:=hid (HR.out.keeps hb01 nl)
 have c1:=HR1.out.va.c1
 have lV:=HR1.out.va.lt
 go_wp2_with fail
 go_region_held3 (fun w'=>w'.cell? ⟨V,1,none⟩=some (.slice (some ⟨B,0,none⟩) n bc)∧w'.cell? ⟨w.heap.size,1,none⟩=some (.int .i64 mode)∧w'.cell? ⟨w.heap.size,2,none⟩=some (.int .i64 t)∧w'.cell? ⟨w.heap.size,3,none⟩=some (.int .i64 l)) (first | exact ⟨c1,o1,o2,o3⟩|exact D2.out | go_keep)
  (first | (go_at_call 53;refine (HSP.out _).mono ?_;rintro e w2 ⟨g,rfl,hrows,hb2,hown⟩;(have hb12:Below w1.heap.size w1 w2:=(Below.refl w1.heap.size w1).drew.trans hb2);(have D2:=hid (show w2.cell? ⟨V,1,none⟩=some (.slice (some ⟨B,0,none⟩) n bc)∧w2.cell? ⟨w.heap.size,1,none⟩=some (.int .i64 mode)∧w2.cell? ⟨w.heap.size,2,none⟩=some (.int .i64 t)∧w2.cell? ⟨w.heap.size,3,none⟩=some (.int .i64 l) from ⟨(hb12.cell lV).trans c1,(hb12.cell hz1).trans o1,(hb12.cell hz1).trans o2,(hb12.cell hz1).trans o3⟩));(have HROWS:=hid hrows);(have HOWN:=hid hown);clear hrows hown))
 have hb02:=hb01.trans (hb12.mono hb01.size)
 have HAU:=hid (qdT V key n B 0 bc sp w2 (HR1.out.va.keeps hb12 nl) hn8 (fun i hi=>(hb02.cell (HLT.out i hi)).trans (HUP.out i hi)))
 have HOB2:=hid (show w2.heap[w.heap.size]?=_ from (hb12.block _ hz1).trans HOB.out)
 obtain ⟨vs0,hrow0,hrest0⟩:=qlb (fun i=>Cof.sumRow (P i) (Z.getD i [])) HOWN.out HROWS.out HZL.out
 have HI0:=hid (And.intro hrow0 hrest0)
 have hgz:=(hrow0.own.lt g rfl)
 have hgw:w1.heap.size≤g:=by have h1:=hgz.1;simp at h1;omega
 clear hrow0 hrest0
 go_wp2_with (go_at_call 104;refine HAU.out.mono ?_;rintro e w3 ⟨rfl,rfl⟩)
 go_loopw [54] (fun u wr=>∃(k:Nat) (vq:List Value),k≤m∧u=.int .i64 k∧Rows wr w1.heap.size g n k 50 (fun i=>Cof.sumRow (P i) (Z.getD i [])) vq∧(∀(j:Nat) (v:Value),k≤j→vq[j]?=some v→∃a' c',v=.slice a' (Z.getD j []).length c'∧Rd wr a' (bs (Z.getD j [])))∧Below w1.heap.size w1 wr) (fun u _=>n-(intOf u).toNat)
 case atStart=>exact ⟨0,vs0,Nat.zero_le _,rfl,HI0.out.1,fun j v _ hv=>HI0.out.2 j v hv,hb12⟩
 case round =>
  obtain ⟨k,vq,hkn,rfl,hrow,hrest,hbr⟩:=hrel
  by_cases hlt:k<m
  ·have hb0r:=hb01.trans (hbr.mono hb01.size)
   have HOBR:=hid (show wr.heap[w.heap.size]?=_ from (hbr.block _ hz1).trans HOB.out)
   have o0:wr.cell? ⟨w.heap.size,0,none⟩=some (.string nm):=cq HOBR.out rfl
   have o1:wr.cell? ⟨w.heap.size,1,none⟩=some (.int .i64 mode):=cq HOBR.out rfl
   have o2:wr.cell? ⟨w.heap.size,2,none⟩=some (.int .i64 t):=cq HOBR.out rfl
   have o3:wr.cell? ⟨w.heap.size,3,none⟩=some (.int .i64 l):=cq HOBR.out rfl
   have o4:wr.cell? ⟨w.heap.size,4,none⟩=some (.int .i64 size):=cq HOBR.out rfl
   have o5:wr.cell? ⟨w.heap.size,5,none⟩=some (.int .i64 epoch):=cq HOBR.out rfl
   have HPI:=hid (HPC.out k hlt wr hb0r (HT.out.keeps hb0r nl))
   have HROW:=hid hrow
   have HREST:=hid hrest
   have hlt':(k:Int)<(n:Int):=by omega
   clear hrow hrest
   go_wp2_with fail
   refine HPI.out.mono ?_
   rintro e w4 ⟨pv,rfl,hpo,hb4⟩
   obtain ⟨pa,pc,rfl,hprd⟩:=qad hpo
   have hrow4:=HROW.out.kept hb4 nl
   obtain ⟨zv,hzv⟩:∃zv,vq[k]?=some zv:=⟨_,List.getElem?_eq_getElem (by have:=(qap HROW.out.own).2.2;omega)⟩
   obtain ⟨za,zc,rfl,hzrd⟩:=HREST.out k zv nl hzv
   have cg:w4.cell? ⟨g,k,none⟩=some (.slice za (Z.getD k []).length zc):=by rw [hrow4.own.cellAt k (by omega)];exact hzv
   have HZRD:=hid (hzrd.below hb4 nl)
   have HPRD:=hid hprd
   have HZK:=hid (HZR.out k (by omega))
   obtain ⟨zl,hzl⟩:∃zl,zl=(Z.getD k []).length:=⟨_,rfl⟩
   rw [←hzl] at cg HZK
   have HZLL:=hid hzl
   have HSUM:=hid (sumB pa za pc zc ng zl (P k) (Z.getD k []) w4 (HPL.out k hlt).symm HZLL.out HPRD.out HZRD.out (by omega) (by rw [HZK.out];omega))
   have HR4:=hid hrow4
   have hg4:=(hrow4.own.lt g rfl).2
   clear hpo hprd hzrd hzl hrow4 hzv
   go_wp2_with fail
   refine HSUM.out.mono ?_
   rintro e w5 ⟨g5,l5,rfl,hl5,hrd5,hb5⟩
   have hrow5:=HR4.out.kept hb5 nl
   have cg5:w5.cell? ⟨g,k,none⟩=some (.slice za zl zc):=(hb5.cell hg4).trans cg
   have fg5:=hrow5.own.frozenAt k
   have HN5:=hid (hrow5.next (a:=some ⟨g5,0,none⟩) (l:=l5) (cap:=l5) hl5 hrd5)
   have HR5:=hid hrow5
   have hb45:=hb4.trans (hb5.mono hb4.size)
   clear hrow5 hl5 hrd5 cg
   go_wp2_with fail
   go_roundw
   case rel =>
    refine ⟨k+1,_,by omega,by go_num,HN5.out,fun j v hj hv=>?_,(hbr.trans (hb45.mono hbr.size)).setCell (by show w1.heap.size≤g;exact hgw) _⟩
    rw [List.getElem?_set,if_neg (by omega)] at hv
    obtain ⟨a',c',h1,h2⟩:=HREST.out j v (by omega) hv
    exact ⟨a',c',h1,(h2.below hb45 nl).setCell_other (qap HR5.out.own).1 HR5.out.shape _⟩
   case measure=>simp [intOf];omega
  ·have hkk:k=m:=by omega
   subst hkk
   by_cases hkn2:k=n
   ·subst hkn2
    have HF:=hid hrow.full
    clear hrow hrest
    go_wp2
    go_ret2
    first | exact .inl ⟨rfl,g,rfl,HF.out,hb01.trans (hbr.mono hb01.size)⟩|exact ⟨g,rfl,HF.out,hb01.trans (hbr.mono hb01.size)⟩
   ·have hb0r:=hb01.trans (hbr.mono hb01.size)
    have hltn:k<n:=by omega
    have HOBR:=hid (show wr.heap[w.heap.size]?=_ from (hbr.block _ hz1).trans HOB.out)
    have o0:wr.cell? ⟨w.heap.size,0,none⟩=some (.string nm):=cq HOBR.out rfl
    have o1:wr.cell? ⟨w.heap.size,1,none⟩=some (.int .i64 mode):=cq HOBR.out rfl
    have o2:wr.cell? ⟨w.heap.size,2,none⟩=some (.int .i64 t):=cq HOBR.out rfl
    have o3:wr.cell? ⟨w.heap.size,3,none⟩=some (.int .i64 l):=cq HOBR.out rfl
    have o4:wr.cell? ⟨w.heap.size,4,none⟩=some (.int .i64 size):=cq HOBR.out rfl
    have o5:wr.cell? ⟨w.heap.size,5,none⟩=some (.int .i64 epoch):=cq HOBR.out rfl
    have HPI:=hid (HPB.out hltn wr hb0r (HT.out.keeps hb0r nl))
    have hlt':(k:Int)<(n:Int):=by omega
    clear hrow hrest
    go_wp2_with fail
    refine HPI.out.mono ?_
    rintro e w4 ⟨ev,rfl,hch,hb4⟩
    have HCH:=hid hch
    obtain ⟨te,ve,rfl⟩:=hch.shape
    clear hch
    go_wp2_with fail
    go_ret2
    exact .inr ⟨hltn,_,rfl,HCH.out,hb0r.trans (hb4.mono hb0r.size)⟩
theorem qeG (V key n B bc:Nat) (sp:Nat→Nat) (mode t l size epoch:Nat) (nm tape:ByteArray) (w:World) (h:Rdy w V key n B bc sp) (hp:qaj mode t l n) (hm0:mode=0) (he:epoch<100) (hz:size≤60) (htp:tape.size<Cof.tsize mode t*Cof.ngroups mode t l size) (hT:Tab w) :
  Calls Tryz.prog 79 #[.pointer (some ⟨V,0,none⟩),.agg #[.string nm,.int .i64 mode,.int .i64 t,.int .i64 l,.int .i64 size,.int .i64 epoch],.string tape] w fun e w' =>
   ∃ev,e=.returned (.tuple #[.slice none 0 0,ev])∧Chain w' 7 2 ev∧Below w.heap.size w w':=by
 have hba:=(Below.refl w.heap.size w).alloc nl (.cells #[.string nm,.int .i64 mode,.int .i64 t,.int .i64 l,.int .i64 size,.int .i64 epoch] 55)
 have HREP:=hid (Tryz.strings_Repeat ⟨#[0]⟩ size (w.alloc (.cells #[.string nm,.int .i64 mode,.int .i64 t,.int .i64 l,.int .i64 size,.int .i64 epoch] 55)) (by omega) (by show 1*size≤_;omega))
 obtain ⟨nz,hnz⟩:∃nz:ByteArray,nz=⟨(Lib.repeatL (⟨#[0]⟩:ByteArray).data.toList size).toArray⟩:=⟨_,rfl⟩
 rw [←hnz] at HREP
 have hnl:nz.data.toList=List.replicate size 0:=by rw [hnz];simp [qcW]
 have hns:nz.size=size:=by show nz.data.size=size;rw [←Array.length_toList,hnl];simp
 have HSP:=hid (fun w' hT'=>qdd mode t l n nz tape w' hT' hp (by omega) (by rw [hns];exact htp))
 have HR:=hid h
 have HT:=hid hT
 have hn8:=h.n8
 have q1:((mode:Int) == 1)=false:=by rw [hm0];rfl
 have q2:¬(100:Int)≤(epoch:Int):=by omega
 clear h hp hm0 hz htp hT hnz hnl hns
 go_enter Tryz.func79,Tryz.ntmps79
 go_wp2_with fail
 refine HREP.out.mono ?_
 rintro e w1 ⟨rfl,hb1⟩
 have hb01:Below w.heap.size w w1:=hba.trans (hb1.mono (by simp))
 have hz1:w.heap.size<w1.heap.size:=by have:=hb1.size;simp at this;omega
 have HOB:=hid (show w1.heap[w.heap.size]?=some (.cells #[.string nm,.int .i64 mode,.int .i64 t,.int .i64 l,.int .i64 size,.int .i64 epoch] 55) from (hb1.block _ (by simp)).trans (alloc_at _ _))
 have o1:w1.cell? ⟨w.heap.size,1,none⟩=some (.int .i64 mode):=cq HOB.out rfl
 have o2:w1.cell? ⟨w.heap.size,2,none⟩=some (.int .i64 t):=cq HOB.out rfl
 have o3:w1.cell? ⟨w.heap.size,3,none⟩=some (.int .i64 l):=cq HOB.out rfl
 have HR1:=hid (HR.out.keeps hb01 nl)
 have c1:=HR1.out.va.c1
 have lV:=HR1.out.va.lt
 have HT1:=hid (HT.out.keeps hb01 nl)
 go_wp2_with fail
 go_region_held3 (fun w'=>w'.cell? ⟨V,1,none⟩=some (.slice (some ⟨B,0,none⟩) n bc)∧w'.cell? ⟨w.heap.size,1,none⟩=some (.int .i64 mode)∧w'.cell? ⟨w.heap.size,2,none⟩=some (.int .i64 t)∧w'.cell? ⟨w.heap.size,3,none⟩=some (.int .i64 l)) (first | exact ⟨c1,o1,o2,o3⟩|exact D2.out | go_keep)
  (first | (go_at_call 53;refine (HSP.out _ (HT1.out.keeps (Below.refl _ _).drew nl)).mono ?_;rintro e w2 ⟨ev,rfl,hch,hb2⟩;(have hb12:Below w1.heap.size w1 w2:=(Below.refl w1.heap.size w1).drew.trans hb2);(have D2:=hid (show w2.cell? ⟨V,1,none⟩=some (.slice (some ⟨B,0,none⟩) n bc)∧w2.cell? ⟨w.heap.size,1,none⟩=some (.int .i64 mode)∧w2.cell? ⟨w.heap.size,2,none⟩=some (.int .i64 t)∧w2.cell? ⟨w.heap.size,3,none⟩=some (.int .i64 l) from ⟨(hb12.cell lV).trans c1,(hb12.cell hz1).trans o1,(hb12.cell hz1).trans o2,(hb12.cell hz1).trans o3⟩));(have HCH:=hid hch);obtain ⟨te,ve,rfl⟩:=hch.shape;clear hch))
 have hb02:=hb01.trans (hb12.mono hb01.size)
 go_wp2_with fail
 go_ret2
 exact ⟨_,rfl,HCH.out,hb02⟩
theorem qe9 (V key n B bc:Nat) (sp:Nat→Nat) (dn:Nat→Bool) (mode t l size epoch:Nat) (nm tape:ByteArray) (w:World) (h:Rdy w V key n B bc sp) (hp:qaj mode t l n) (hm0:mode=0) (he:epoch<100) (hz:size≤60) (htp:Cof.tsize mode t*Cof.ngroups mode t l size≤tape.size) (hT:Tab w)
  (hup:∀i,i<n→w.cell? ⟨sp i,0,none⟩=some (.bool (dn i))) (hlt:∀i,i<n→sp i<w.heap.size) (hd:∃i,i<n∧dn i=true) :
  Calls Tryz.prog 79 #[.pointer (some ⟨V,0,none⟩),.agg #[.string nm,.int .i64 mode,.int .i64 t,.int .i64 l,.int .i64 size,.int .i64 epoch],.string tape] w fun e w' =>
   ∃ev,e=.returned (.tuple #[.slice none 0 0,ev])∧Chain w' 8 1 ev∧Below w.heap.size w w':=by
 have hba:=(Below.refl w.heap.size w).alloc nl (.cells #[.string nm,.int .i64 mode,.int .i64 t,.int .i64 l,.int .i64 size,.int .i64 epoch] 55)
 have HREP:=hid (Tryz.strings_Repeat ⟨#[0]⟩ size (w.alloc (.cells #[.string nm,.int .i64 mode,.int .i64 t,.int .i64 l,.int .i64 size,.int .i64 epoch] 55)) (by omega) (by show 1*size≤_;omega))
 obtain ⟨nz,hnz⟩:∃nz:ByteArray,nz=⟨(Lib.repeatL (⟨#[0]⟩:ByteArray).data.toList size).toArray⟩:=⟨_,rfl⟩
 rw [←hnz] at HREP
 have hnl:nz.data.toList=List.replicate size 0:=by rw [hnz];simp [qcW]
 have hns:nz.size=size:=by show nz.data.size=size;rw [←Array.length_toList,hnl];simp
 have HSP:=hid (fun w'=>qcg mode t l n nz tape w' hp (by omega) (by rw [hns];exact htp))
 rw [hnl] at HSP
 generalize Cof.split (List.replicate size 0) mode t l n tape.data.toList=Z at *
 have HUP:=hid hup
 have HLT:=hid hlt
 have HD:=hid hd
 have HR:=hid h
 have HT:=hid hT
 have hn8:=h.n8
 have q1:((mode:Int) == 1)=false:=by rw [hm0];rfl
 have q2:¬(100:Int)≤(epoch:Int):=by omega
 clear h hp hm0 hz htp hT hnz hnl hns hup hlt hd
 go_enter Tryz.func79,Tryz.ntmps79
 go_wp2_with fail
 refine HREP.out.mono ?_
 rintro e w1 ⟨rfl,hb1⟩
 have hb01:Below w.heap.size w w1:=hba.trans (hb1.mono (by simp))
 have hz1:w.heap.size<w1.heap.size:=by have:=hb1.size;simp at this;omega
 have HOB:=hid (show w1.heap[w.heap.size]?=some (.cells #[.string nm,.int .i64 mode,.int .i64 t,.int .i64 l,.int .i64 size,.int .i64 epoch] 55) from (hb1.block _ (by simp)).trans (alloc_at _ _))
 have o1:w1.cell? ⟨w.heap.size,1,none⟩=some (.int .i64 mode):=cq HOB.out rfl
 have o2:w1.cell? ⟨w.heap.size,2,none⟩=some (.int .i64 t):=cq HOB.out rfl
 have o3:w1.cell? ⟨w.heap.size,3,none⟩=some (.int .i64 l):=cq HOB.out rfl
 have HR1:=hid (HR.out.keeps hb01 nl)
 have c1:=HR1.out.va.c1
 have lV:=HR1.out.va.lt
 have HT1:=hid (HT.out.keeps hb01 nl)
 go_wp2_with fail
 go_region_held3 (fun w'=>w'.cell? ⟨V,1,none⟩=some (.slice (some ⟨B,0,none⟩) n bc)∧w'.cell? ⟨w.heap.size,1,none⟩=some (.int .i64 mode)∧w'.cell? ⟨w.heap.size,2,none⟩=some (.int .i64 t)∧w'.cell? ⟨w.heap.size,3,none⟩=some (.int .i64 l)) (first | exact ⟨c1,o1,o2,o3⟩|exact D2.out | go_keep)
  (first | (go_at_call 53;refine (HSP.out _).mono ?_;rintro e w2 ⟨g,rfl,_,hb2,_⟩;(have hb12:Below w1.heap.size w1 w2:=(Below.refl w1.heap.size w1).drew.trans hb2);(have D2:=hid (show w2.cell? ⟨V,1,none⟩=some (.slice (some ⟨B,0,none⟩) n bc)∧w2.cell? ⟨w.heap.size,1,none⟩=some (.int .i64 mode)∧w2.cell? ⟨w.heap.size,2,none⟩=some (.int .i64 t)∧w2.cell? ⟨w.heap.size,3,none⟩=some (.int .i64 l) from ⟨(hb12.cell lV).trans c1,(hb12.cell hz1).trans o1,(hb12.cell hz1).trans o2,(hb12.cell hz1).trans o3⟩))))
 have hb02:=hb01.trans (hb12.mono hb01.size)
 have HAU:=hid (allUp_no V key n B 0 bc sp dn w2 (HR1.out.va.keeps hb12 nl) hn8 (fun i hi=>(hb02.cell (HLT.out i hi)).trans (HUP.out i hi)) HD.out (HT.out.keeps hb02 nl))
 go_wp2_with fail
 refine HAU.out.mono ?_
 rintro e w3 ⟨ev,rfl,hch,hb3⟩
 have HCH:=hid hch
 obtain ⟨te,ve,rfl⟩:=hch.shape
 clear hch
 go_wp2_with fail
 go_ret2
 exact ⟨_,rfl,HCH.out,hb02.trans (hb3.mono hb02.size)⟩
end Go.Proofs.YtcegdgmbponapaaGreatDoor