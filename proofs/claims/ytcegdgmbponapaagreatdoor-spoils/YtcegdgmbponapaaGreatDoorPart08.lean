import Derived.Test.YtcegdgmbponapaaGreatDoorPart07
import Derived.Test.YtcegdgmbponapaaGreatDoorClone
set_option maxRecDepth 100000
set_option maxHeartbeats 4000000
namespace Go.Proofs.YtcegdgmbponapaaGreatDoor
open Go.RowKit
attribute [local go_sem ↓] Go.wp_at_zero Go.wp_at_succ
theorem Tryz.infoP:(Tryz.prog.info? 147).map (fun i=>(i.zero,i.size,i.bytes))=some (some (.pointer none),1,8):=by kernel_rfl
theorem alloc_at (w:World) (o:Obj):(w.alloc o).heap[w.heap.size]?=some o:=by
 show (w.heap.push o)[w.heap.size]?=_
 simp
theorem row_ne {w:World} {base n size:Nat} {e e':TypeId} {L:List Value} {v:Value} {b:Nat} {cs:Array Value} (h:w.ownsRow base e size v n L) (hb:w.heap[b]?=some (.cells cs e')) (he:e≠e'):v.ownBlock≠some b:=by
 intro hv
 rcases h with ⟨_,⟨rfl,_⟩|⟨g,cap,cur,rfl,_,h4,_⟩⟩
 ·cases hv
 ·cases hv
  rw [h4] at hb
  simp at hb
  exact he hb.2
def ptrs (ps:List Nat):List Value:=ps.map fun p=>.pointer (some ⟨p,0,none⟩)
structure qeu (w:World) (key:Nat) (k:Nat) (ps:List Nat) (v:Value) (wr:World):Prop where
 len:ps.length=k
 hp:wr.heap[w.heap.size]?=some (.cells #[.int .u64 key,v,.int .i64 0,.bool false,.int .i64 0,.bool false] 161)
 row:wr.ownsRow w.heap.size 147 1 v k (ptrs ps)
 st:∀s∈ps,wr.heap[s]?=some (.cells #[.bool false,.slice none 0 0] 178)∧w.heap.size<s
 nd:ps.Nodup
 bl:Below w.heap.size w wr
end Go.Proofs.YtcegdgmbponapaaGreatDoor
namespace Go.Proofs.YtcegdgmbponapaaGreatDoor
open Go.RowKit Go.Extern.Stop Go.Stop Go.Extern
attribute [local go_sem ↓] Go.wp_at_zero Go.wp_at_succ
theorem Tryz.eqlPK (v:Value) (k:Int) (w:World):(binOp .eql 97 (.iface 212 v) (.iface 136 (.int .i64 k))).run Tryz.prog w=.ok (.bool false) w:=by kernel_rfl
theorem Tryz.eqlKK (j k:Int) (w:World):(binOp .eql 97 (.iface 136 (.int .i64 j)) (.iface 136 (.int .i64 k))).run Tryz.prog w=.ok (.bool (j == k)) w:=by kernel_rfl
theorem Tryz.eqlNN (w:World):(binOp .eql 97 .nilIface .nilIface).run Tryz.prog w=.ok (.bool true) w:=by kernel_rfl
theorem Tryz.eqlNK (v:Value) (w:World):(binOp .eql 97 .nilIface (.iface 136 v)).run Tryz.prog w=.ok (.bool false) w:=by kernel_rfl
theorem Tryz.eqlKN (v:Value) (w:World):(binOp .eql 97 (.iface 136 v) .nilIface).run Tryz.prog w=.ok (.bool false) w:=by kernel_rfl
theorem Tryz.eqlPN (v:Value) (w:World):(binOp .eql 97 (.iface 212 v) .nilIface).run Tryz.prog w=.ok (.bool false) w:=by kernel_rfl
theorem Tryz.methodComparable (h:Value) (w:World):(Go.method 508 269 (.agg #[h]) "Comparable").run Tryz.prog w=.ok (311,.agg #[h]) w:=by kernel_rfl
theorem Tryz.comparableE (w:World):(ReflectliteType.method (fun t=>do Rtype.noPackHeld "Comparable" t;(fun a=>Value.bool a.comparable) <$> typeInfo t) #[.agg #[.pointer (some ⟨5,136,none⟩)]]).run Tryz.prog w=.ok (.bool true) w:=by kernel_rfl
theorem Tryz.assertIsP (v:Value) (w:World):(Instr.typeAssert (.iface 212 v) 97 347 true).run Tryz.prog w=.ok (.tuple #[.nilIface,.bool false]) w:=run_typeAssert_lacksB Tryz.underlying347 (by kernel_rfl) (by kernel_rfl) v _ w
theorem Tryz.assertIsK (v:Value) (w:World):(Instr.typeAssert (.iface 136 v) 97 347 true).run Tryz.prog w=.ok (.tuple #[.nilIface,.bool false]) w:=run_typeAssert_lacksB Tryz.underlying347 (by kernel_rfl) (by kernel_rfl) v _ w
theorem Tryz.assertUnK (v:Value) (w:World):(Instr.typeAssert (.iface 136 v) 97 277 true).run Tryz.prog w=.ok (.tuple #[.nilIface,.bool false]) w:=run_typeAssert_lacksB Tryz.underlying277 (by kernel_rfl) (by kernel_rfl) v _ w
theorem Tryz.assertUnsK (v:Value) (w:World):(Instr.typeAssert (.iface 136 v) 97 278 true).run Tryz.prog w=.ok (.tuple #[.nilIface,.bool false]) w:=run_typeAssert_lacksB Tryz.underlying278 (by kernel_rfl) (by kernel_rfl) v _ w
theorem is_any (k kt:Int) (w:World) (d:Nat) (e:Value) (hc:Chain w k d e) (hd:d≤10) :
  Calls Tryz.prog 241 #[e,.iface 136 (.int .i64 kt),.bool true] w fun ev w'=>ev=.returned (.bool (k == kt))∧w'=w:=by
 have q1:=Tryz.eqlPK
 have q2:=Tryz.eqlKK
 have sI:=Tryz.assertIsP
 have sK:=Tryz.assertIsK
 have sU:=Tryz.assertUnwrap
 have sV:=Tryz.assertUnK
 have sW:=Tryz.assertUnsK
 have mU:=Tryz.methodUnwrap
 have HC:=hid hc
 clear hc
 go_enter Tryz.func241,Tryz.ntmps241
 go_wp2_with fail
 go_loopw [0] (fun e wr=>∃d,d≤10∧Chain wr k d e∧wr=w) (fun e wr=>deep wr 10 e)
 case atStart=>exact ⟨d,hd,HC.out,rfl⟩
 case round =>
  obtain ⟨d',hd',hc',rfl⟩:=hrel
  have hm:=hc'.deep 10 hd'
  cases hc' with
  | hit =>
   by_cases hk:k=kt
   ·subst hk
    have hkk:(k == k)=true:=by simp
    go_wp2_with fail
    go_ret
    exact ⟨congrArg (fun b=>Ending.returned (.bool b)) hkk.symm,rfl⟩
   ·have hkk:(k == kt)=false:=by simp [hk]
    have HKK:=hid hkk
    go_wp2_with fail
    go_ret
    exact ⟨congrArg (fun b=>Ending.returned (.bool b)) HKK.out.symm,rfl⟩
  | place d2 b e2 h2 hcell hlt =>
   have h3:=h2.deep 10 (by omega)
   have HM:=hid hm
   have H3:=hid h3
   have H2:=hid h2
   obtain ⟨te,ve,rfl⟩:=h2.shape
   clear hm h3 h2
   go_wp2_with (go_at_call 306;refine (qfa b _ _ hcell).mono ?_;rintro ev w2 ⟨rfl,rfl⟩)
   exact ⟨⟨d2,by omega,H2.out,trivial⟩,by rw [H3.out,HM.out];omega⟩
theorem qlm (k kt:Int) (w:World) (d:Nat) (e:Value) (hc:Chain w k d e) (hd:d≤10) :
  Calls Tryz.prog 211 #[e,.iface 136 (.int .i64 kt)] w fun ev w'=>ev=.returned (.bool (k == kt))∧w'=w:=by
 have HI:=hid (is_any k kt w d e hc hd)
 obtain ⟨te,ve,rfl⟩:=hc.shape
 have h1:=@run_callFunc_extern Tryz.prog 171 _ ReflectliteType.typeOf Tryz.func171 (by kernel_rfl) (by kernel_rfl) (by kernel_rfl) (by kernel_rfl)
 have h2:=@run_callFunc_extern Tryz.prog 311 _ (ReflectliteType.method (fun t=>do Rtype.noPackHeld "Comparable" t;pure (.bool (←typeInfo t).comparable))) Tryz.func311 (by kernel_rfl) (by kernel_rfl) (by kernel_rfl) (by kernel_rfl)
 have tE:=Tryz.typeOfE
 have mC:=Tryz.methodComparable
 have cE:=Tryz.comparableE
 have n1:=Tryz.eqlKN
 have hn:(binOp .eql 97 (.iface te ve) .nilIface).run Tryz.prog w=.ok (.bool false) w:=by
  cases hc with
  | hit=>exact Tryz.eqlKN _ _
  | place=>exact Tryz.eqlPN _ _
 clear hc
 go_enter Tryz.func211,Tryz.ntmps211
 go_wp2_with (go_at_call 241;refine HI.out.mono ?_;rintro e w1 ⟨rfl,rfl⟩)
 go_ret
 exact ⟨rfl,rfl⟩
theorem Is_nil (kt:Int) (w:World) :
  Calls Tryz.prog 211 #[.nilIface,.iface 136 (.int .i64 kt)] w fun ev w'=>ev=.returned (.bool false)∧w'=w:=by
 have n1:=Tryz.eqlNN
 have n2:=Tryz.eqlNK
 go_enter Tryz.func211,Tryz.ntmps211
 go_wp2
 go_ret
 exact ⟨rfl,rfl⟩
end Go.Proofs.YtcegdgmbponapaaGreatDoor
namespace Go.Proofs.YtcegdgmbponapaaGreatDoor
open Go.RowKit
attribute [local go_sem ↓] Go.wp_at_zero Go.wp_at_succ
structure Rdy (w:World) (V key n B bc:Nat) (sp:Nat→Nat):Prop where
 va:Va w V key n B 0 bc sp
 c5:w.cell? ⟨V,5,none⟩=some (.bool false)
 n1:1≤n
 n8:n≤8
theorem Rdy.keeps {B':Nat} {w w':World} {V key n B bc:Nat} {sp:Nat→Nat} (h:Rdy w V key n B bc sp) (hb:Below B' w w') (hB:w.heap.size≤B'):Rdy w' V key n B bc sp :=
 ⟨h.va.keeps hb hB,by rw [hb.cell (by exact Nat.lt_of_lt_of_le h.va.lt hB)];exact h.c5,h.n1,h.n8⟩
theorem Rdy.st {w:World} {V key n B bc:Nat} {sp:Nat→Nat} (h:Rdy w V key n B bc sp) (i:Nat) (hi:i<n):w.cell? ⟨B,i,none⟩=some (.pointer (some ⟨sp i,0,none⟩)):=by
 have:=h.va.st i hi
 rwa [Nat.zero_add] at this
theorem Vt.rdy {w:World} {V key n B bc:Nat} {sp:Nat→Nat} {done:Int} {crashes:Bool} {ahead:Int} (h:Vt w V key n B bc sp done crashes ahead false) (h1:1≤n) (h8:n≤8):Rdy w V key n B bc sp :=
 ⟨h.va,cq h.hp rfl,h1,h8⟩
theorem qfg (s:ByteArray) (w:World) (h:s.size≤281474976710656) :
  Calls Tryz.prog 52 #[.string s] w fun e w'=>e=.returned (.string s)∧Below w.heap.size w w':=by
 have H:=hid (Tryz.stringslite_Clone s w h)
 go_enter Tryz.func52,Tryz.ntmps52
 go_wp2_with fail
 refine H.out.mono ?_
 rintro e w1 ⟨rfl,hb1⟩
 go_wp2
 go_ret
 exact ⟨rfl,hb1⟩
theorem qbB (V key n B bc:Nat) (sp:Nat→Nat) (down:Bool) (a:Option Addr) (c:Nat) (rs:List RecV) (r:RecV) (nm:ByteArray) (w:World) (h:Rdy w V key n B bc sp) (hs:St w (sp 0) down a c rs) (hyes:hasName rs nm=true) (hr:r=rs[qai rs nm]!) :
  Calls Tryz.prog 77 #[.pointer (some ⟨V,0,none⟩),.string nm] w fun e w' =>
   e=.returned (.tuple #[.agg #[.string r.name,.int .i64 r.mode,.int .i64 r.t,.int .i64 r.l,.int .i64 r.size,.int .i64 r.epoch],.nilIface])∧Below w.heap.size w w':=by
 have hba:=(Below.refl w.heap.size w).alloc nl (.cells #[.string ByteArray.empty,.int .i64 0,.int .i64 0,.int .i64 0,.int .i64 0,.int .i64 0] 55)
 have hR:=h.keeps hba nl
 have c5:=hR.c5
 have c1:=hR.va.c1
 have k0:=hR.st 0 (by have:=h.n1;omega)
 have HC:=hid (qba V _ c5)
 have HREC:=hid (qbD (sp 0) down a c rs r nm _ (hs.keeps hba nl) hyes hr)
 have hn1:(0:Int)<(n:Int):=by have:=h.n1;omega
 have hVlt:¬V=w.heap.size:=by have:=h.va.lt;omega
 clear h hs hyes hr hR
 go_enter Tryz.func77,Tryz.ntmps77
 go_wp2_with (go_at_call 88;refine HC.out.mono ?_;rintro e w0 ⟨rfl,rfl⟩)
 refine HREC.out.mono ?_
 rintro e w1 ⟨rfl,hb1⟩
 have hc1:∀o,w1.cell? ⟨w.heap.size,o,none⟩=_:=fun o=>(qbM hb1).1 w.heap.size o (by simp)
 have hf1:∀o,w1.frozen? ⟨w.heap.size,o,none⟩=_:=fun o=>(qbM hb1).2 w.heap.size o (by simp)
 have hz1:w.heap.size<w1.heap.size:=by have:=hb1.size;simp at this;omega
 have hb01:Below w.heap.size w w1:=hba.trans (hb1.mono (by simp))
 have hz1':¬w.heap.size=w1.heap.size:=by omega
 go_wp2_with fail
 refine bodyPost_ret (v:=.tuple #[.agg #[.string r.name,.int .i64 r.mode,.int .i64 r.t,.int .i64 r.l,.int .i64 r.size,.int .i64 r.epoch],.nilIface]) ?_ rfl ⟨rfl,?_⟩
 ·simp [results,Tryz.results77,go_sem,World.cell?_alloc_lt,hz1,hc1]
 ·exact ((((((hb01.setCell nl _).setCell nl _).setCell nl _).setCell nl _).setCell nl _).setCell nl _).alloc (by simp;omega) _
theorem qev (V key n B bc:Nat) (sp:Nat→Nat) (down:Bool) (a:Option Addr) (c:Nat) (rs:List RecV) (nm:ByteArray) (w:World) (h:Rdy w V key n B bc sp) (hs:St w (sp 0) down a c rs) (hno:hasName rs nm=false) :
  Calls Tryz.prog 77 #[.pointer (some ⟨V,0,none⟩),.string nm] w fun e w' =>
   ∃ev,e=.returned (.tuple #[.agg #[.string ByteArray.empty,.int .i64 0,.int .i64 0,.int .i64 0,.int .i64 0,.int .i64 0],ev])∧Chain w' 9 1 ev∧Below w.heap.size w w':=by
 have hba:=(Below.refl w.heap.size w).alloc nl (.cells #[.string ByteArray.empty,.int .i64 0,.int .i64 0,.int .i64 0,.int .i64 0,.int .i64 0] 55)
 have hR:=h.keeps hba nl
 have c5:=hR.c5
 have c1:=hR.va.c1
 have k0:=hR.st 0 (by have:=h.n1;omega)
 have HC:=hid (qba V _ c5)
 have HREC:=hid (qef (sp 0) down a c rs nm _ (hs.keeps hba nl) hno)
 have hn1:(0:Int)<(n:Int):=by have:=h.n1;omega
 have hVlt:¬V=w.heap.size:=by have:=h.va.lt;omega
 clear h hs hno hR
 go_enter Tryz.func77,Tryz.ntmps77
 go_wp2_with (go_at_call 88;refine HC.out.mono ?_;rintro e w0 ⟨rfl,rfl⟩)
 refine HREC.out.mono ?_
 rintro e w1 ⟨ev,rfl,hch,hb1⟩
 have hc1:∀o,w1.cell? ⟨w.heap.size,o,none⟩=_:=fun o=>(qbM hb1).1 w.heap.size o (by simp)
 have hf1:∀o,w1.frozen? ⟨w.heap.size,o,none⟩=_:=fun o=>(qbM hb1).2 w.heap.size o (by simp)
 have hz1:w.heap.size<w1.heap.size:=by have:=hb1.size;simp at this;omega
 have hb01:Below w.heap.size w w1:=hba.trans (hb1.mono (by simp))
 have d1:w1.cell? ⟨w.heap.size,1,none⟩=some (.int .i64 0):=by rw [hc1];simp
 have HCH:=hid hch
 obtain ⟨te,ve,rfl⟩:=hch.shape
 clear hch
 go_wp2_with fail
 refine bodyPost_ret (v:=.tuple #[.agg #[.string ByteArray.empty,.int .i64 0,.int .i64 0,.int .i64 0,.int .i64 0,.int .i64 0],.iface te ve]) ?_ rfl ⟨_,rfl,?_,?_⟩
 ·simp [results,Tryz.results77,go_sem,World.cell?_alloc_lt,hz1,hc1]
 ·refine Chain.keeps ?_ ((Below.refl _ _).alloc nl _) nl
  exact HCH.out.other w.heap.size (by intro t v;rw [d1];simp) (fun b hb=>by simp [Below.heap_setCell,hb]) (by simp)
 ·exact ((((((hb01.setCell nl _).setCell nl _).setCell nl _).setCell nl _).setCell nl _).setCell nl _).alloc (by simp;omega) _
theorem qkw (V key n B bc:Nat) (sp:Nat→Nat) (i:Nat) (w:World) (h:Rdy w V key n B bc sp) (hi:i<n) :
  Calls Tryz.prog 82 #[.pointer (some ⟨V,0,none⟩),.int .i64 i] w fun e w'=>e=.returned (.tuple #[.pointer (some ⟨sp i,0,none⟩),.nilIface])∧w'=w:=by
 have c1:=h.va.c1
 have k:=h.st i hi
 have hi':(i:Int)<(n:Int):=by omega
 have hi0:¬(i:Int)<0:=by omega
 clear h
 go_enter Tryz.func82,Tryz.ntmps82
 go_wp2
 go_ret2
 exact ⟨rfl,rfl⟩
theorem qb6 (V key n B bc:Nat) (sp:Nat→Nat) (i:Nat) (w:World) (h:Rdy w V key n B bc sp) (hi:i<n) :
  Calls Tryz.prog 84 #[.pointer (some ⟨V,0,none⟩),.int .i64 i] w fun e w'=>e=.returned (.tuple #[.pointer (some ⟨sp i,0,none⟩),.nilIface])∧w'=w:=by
 have HC:=hid (qba V _ h.c5)
 have HS:=hid (qkw V key n B bc sp i w h hi)
 clear h
 go_enter Tryz.func84,Tryz.ntmps84
 go_wp2_with (first | (go_at_call 88;refine HC.out.mono ?_;rintro e w0 ⟨rfl,rfl⟩)|(go_at_call 82;refine HS.out.mono ?_;rintro e w0 ⟨rfl,rfl⟩))
 go_ret2
 exact ⟨rfl,rfl⟩
theorem qim (V key n B bc:Nat) (sp:Nat→Nat) (i:Nat) (down:Bool) (a:Option Addr) (c:Nat) (rs:List RecV) (r:RecV) (nm:ByteArray) (w:World) (h:Rdy w V key n B bc sp) (hi:i<n) (hs:St w (sp i) down a c rs) (hyes:hasName rs nm=true) (hr:r=rs[qai rs nm]!) :
  Calls Tryz.prog 48 #[.pointer (some ⟨V,0,none⟩),.int .i64 i,.string nm] w fun e w' =>
   e=.returned (.tuple #[.slice r.sa r.sn r.sc,.nilIface])∧Below w.heap.size w w':=by
 have HO:=hid (qb6 V key n B bc sp i w h hi)
 have HREC:=hid (qbD (sp i) down a c rs r nm w hs hyes hr)
 clear h hs hyes hr
 go_enter Tryz.func48,Tryz.ntmps48
 go_wp2_with (go_at_call 84;refine HO.out.mono ?_;rintro e w0 ⟨rfl,rfl⟩)
 refine HREC.out.mono ?_
 rintro e w1 ⟨rfl,hb1⟩
 go_wp2_with fail
 obtain ⟨w2,hw2⟩:∃w2,w2=w1.alloc (.cells #[.string r.name,.int .i64 r.mode,.int .i64 r.t,.int .i64 r.l,.int .i64 r.size,.int .i64 r.epoch,.slice r.sa r.sn r.sc,.slice r.na r.nn r.nc] 152):=⟨_,rfl⟩
 have hb12:Below w0.heap.size w0 w2:=by rw [hw2];exact hb1.alloc hb1.size _
 have d6:w2.cell? ⟨w1.heap.size,6,none⟩=some (.slice r.sa r.sn r.sc):=by rw [hw2];simp
 rw [←hw2]
 clear hw2
 go_region_held3 (fun w'=>w'.cell? ⟨w1.heap.size,6,none⟩=some (.slice r.sa r.sn r.sc)) (first | exact d6 | go_keep)
  (first | (go_at_call 78;refine (at_nil _ _).mono ?_;rintro e w3 ⟨rfl,rfl⟩))
 go_wp2
 go_ret2
 exact ⟨rfl,hb12.drew⟩
def Cof.high (x n:Nat):List UInt8:=(List.range n).map fun j=>UInt8.ofNat (x / 256 ^ (n-1-j))
theorem Cof.length_high (x n:Nat):(Cof.high x n).length=n:=by simp [Cof.high]
def Cof.highTo (x n k:Nat):List UInt8:=(List.range n).map fun j=>if n-k≤j then UInt8.ofNat (x / 256 ^ (n-1-j)) else 0
theorem Cof.highTo_zero (x n:Nat):Cof.highTo x n 0=List.replicate n 0:=by
 apply List.ext_getElem
 ·simp [Cof.highTo]
 ·intro i h1 h2
  simp [Cof.highTo] at h1 ⊢
  intro h;omega
theorem Cof.highTo_full (x n:Nat):Cof.highTo x n n=Cof.high x n:=by
 apply List.map_congr_left
 intro i hi
 simp
theorem Cof.length_highTo (x n k:Nat):(Cof.highTo x n k).length=n:=by simp [Cof.highTo]
theorem Cof.highTo_set (x n k:Nat) (h:k<n):(Cof.highTo x n k).set (n-1-k) (UInt8.ofNat (x / 256 ^ k))=Cof.highTo x n (k+1):=by
 apply List.ext_getElem
 ·simp [Cof.highTo]
 ·intro i h1 h2
  simp only [List.getElem_set]
  split
  ·rename_i e;subst e
   simp only [Cof.highTo,List.getElem_map,List.getElem_range]
   rw [if_pos (by omega),show n-1-(n-1-k)=k by omega]
  ·rename_i e
   simp only [Cof.highTo,List.getElem_map,List.getElem_range]
   simp [Cof.highTo] at h1
   by_cases hi:n-k≤i
   ·simp [hi,show n-(k+1)≤i by omega]
   ·simp [hi,show ¬n-(k+1)≤i by omega]
theorem qjN (x k:Nat):(x:Int) / 2 ^ (8*k) % 256=((UInt8.ofNat (x / 256 ^ k)).toNat:Int):=by
 have h1:(2:Int) ^ (8*k)=((256 ^ k:Nat):Int):=by rw [Int.pow_mul];norm_cast
 rw [h1,UInt8.toNat_ofNat',←Int.natCast_ediv,show (256:Int)=((2 ^ 8:Nat):Int) from rfl,←Int.natCast_emod]
theorem qcb (x n:Nat) (w:World) (hn:n≤8) :
  Calls Tryz.prog 198 #[.int .u64 x,.int .i64 n] w fun e w' =>
   ∃g,e=.returned (.slice (some ⟨g,0,none⟩) n n)∧w'.ownsRow w.heap.size 5 1 (.slice (some ⟨g,0,none⟩) n n) n (bs (Cof.high x n))∧Below w.heap.size w w':=by
 obtain ⟨i0,hi,hz0,hz1,hz2⟩:=info_parts Tryz.info5
 go_enter Tryz.func198,Tryz.ntmps198
 go_wp2_with (first | (at_make;refine wpList_make_full _ rfl (.tmp 7) (.tmp 7) 50 rfl w.heap.size 5 i0 (.int .u8 0) 1 Tryz.underlying50 hi hz0 hz1 .i64 .i64 _ _ n rfl rfl rfl rfl (by rw [hz2];omega) (by unfold maxLen;omega) nl ?_;intro w1 hown1 hgrow1;have hb1:=grown_below hgrow1;have HO1:=hid (qcm hown1);clear hown1 hgrow1)|fail)
 go_loopw [11] (fun i wr=>∃k:Nat,k≤n∧i=.int .i64 k∧wr.ownsRow w.heap.size 5 1 (.slice (some ⟨w.heap.size,0,none⟩) n n) n (bs (Cof.highTo x n k))∧Below w.heap.size w wr) (fun i _=>n-(intOf i).toNat)
 case atStart =>
  refine ⟨0,Nat.zero_le _,rfl,?_,hb1⟩
  rw [Cof.highTo_zero]
  exact HO1.out
 case round =>
  obtain ⟨k,hk,rfl,hown,hbel⟩:=hrel
  by_cases hlt:k<n
  ·have hs:=hown.frozenAt (n-1-k)
   have hc:=(hown.cellAt (n-1-k) (by omega)).trans (qaX (Cof.highTo x n k) (n-1-k) (by rw [Cof.length_highTo];omega))
   have HST:=hid (qjL (k:=n-1-k) hown (UInt8.ofNat (x / 256 ^ k)))
   have hlt':(k:Int)<(n:Int):=by omega
   clear hown
   rw [Cof.highTo_set x n k hlt] at HST
   go_wp2
   go_roundw
   case rel=>exact ⟨k+1,by omega,by go_num,by rw [qjN];exact HST.out,hbel.setCell nl _⟩
   case measure=>simp [intOf];omega
  ·have hkn:k=n:=by omega
   subst hkn
   rw [Cof.highTo_full] at hown
   go_wp2
   go_ret
   exact ⟨_,rfl,hown,hbel⟩
def Cof.tagStep (t:Nat) (b:UInt8):Nat:=(t^^^b.toNat)*1099511628211 % 18446744073709551616
def Cof.tag (key:Nat) (xs:List UInt8):Nat:=xs.foldl Cof.tagStep (14695981039346656037^^^key)
theorem Cof.fold_lt (xs:List UInt8):∀s,s<18446744073709551616→xs.foldl Cof.tagStep s<18446744073709551616:=by
 induction xs with
 | nil=>intro s h;rw [List.foldl_nil];exact h
 | cons x xs ih =>
  intro s _
  rw [List.foldl_cons]
  apply ih
  unfold Cof.tagStep
  exact Nat.mod_lt _ (by decide)
theorem Cof.fold_snoc (s:Nat) (xs:List UInt8) (k:Nat) (h:k<xs.length):(xs.take (k+1)).foldl Cof.tagStep s=Cof.tagStep ((xs.take k).foldl Cof.tagStep s) xs[k]:=by
 rw [List.take_succ_eq_append_getElem h,List.foldl_append,List.foldl_cons,List.foldl_nil]
theorem qgd (key:Nat) (hk:key<18446744073709551616):14695981039346656037^^^key<18446744073709551616:=by
 have h1:14695981039346656037<2 ^ 64:=by decide
 generalize 14695981039346656037=c at *
 exact Nat.xor_lt_two_pow (n:=64) h1 hk
theorem Cof.tag_lt (key:Nat) (hk:key<18446744073709551616) (xs:List UInt8):Cof.tag key xs<18446744073709551616:=by
 unfold Cof.tag
 exact Cof.fold_lt xs _ (qgd key hk)
theorem Cof.tag_snoc (key:Nat) (xs:List UInt8) (k:Nat) (h:k<xs.length):Cof.tag key (xs.take (k+1))=Cof.tagStep (Cof.tag key (xs.take k)) xs[k]:=by
 unfold Cof.tag
 rw [Cof.fold_snoc]
theorem qd9 (t:Nat) (x:UInt8) (hx:bits .xor .u64 (t:Int) (x.toNat:Int)=((t^^^x.toNat:Nat):Int)):IntKind.u64.wrap (bits .xor .u64 (t:Int) (IntKind.u64.wrap (x.toNat:Int))*1099511628211)=(Cof.tagStep t x:Int):=by
 have h1:IntKind.u64.wrap (x.toNat:Int)=x.toNat:=by rw [IntKind.wrap_u64];have:=x.toNat_lt;omega
 rw [h1,hx,IntKind.wrap_u64]
 unfold Cof.tagStep
 generalize t^^^x.toNat=y
 omega
theorem tag_nil (key:Nat):Cof.tag key []=14695981039346656037^^^key:=by unfold Cof.tag;rw [List.foldl_nil]
theorem qiL (t:Nat) (b:UInt8) (ht:t<18446744073709551616):bits .xor .u64 (t:Int) (b.toNat:Int)=((t^^^b.toNat:Nat):Int):=bits_xor_u64_nat _ _ ht (Nat.lt_trans b.toNat_lt (by decide))
theorem qgh (key:Nat) (hk:key<18446744073709551616):bits .xor .u64 (14695981039346656037:Int) (key:Int)=(Cof.tag key []:Int):=by
 rw [tag_nil]
 exact bits_xor_u64_nat 14695981039346656037 key (by decide) hk
theorem qg8 (a:Option Addr) (m c:Nat) (xs:List UInt8) (key:Nat) (w:World) (em:m=xs.length) (hr:Rd w a (bs xs)) (hm:m≤1000) (hk:key<18446744073709551616) :
  Calls Tryz.prog 186 #[.slice a m c,.int .u64 key] w fun e w' =>
   ∃g,e=.returned (.slice (some ⟨g,0,none⟩) 8 8)∧w'.ownsRow w.heap.size 5 1 (.slice (some ⟨g,0,none⟩) 8 8) 8 (bs (Cof.high (Cof.tag key xs) 8))∧Below w.heap.size w w':=by
 have EM:=hid em
 have h0:=qgh key hk
 have HK:=hid hk
 clear em hk
 go_enter Tryz.func186,Tryz.ntmps186
 go_wp2
 go_loopw [5,12] (fun t i wr=>∃k:Nat,k≤m∧i=.int .i64 k∧t=.int .u64 (Cof.tag key (xs.take k))∧wr=w) (fun _ i _=>m-(intOf i).toNat)
 case atStart=>exact ⟨0,Nat.zero_le _,rfl,by rw [List.take_zero,←h0],rfl⟩
 case round =>
  obtain ⟨k,hk,rfl,rfl,rfl⟩:=hrel
  by_cases hlt:k<m
  ·have hkl:k<xs.length:=by rw [←EM.out];exact hlt
   obtain ⟨b,o,rfl,hb,hcell⟩:=hr.pos (by rw [qag];omega)
   have hc:wr.cell? ⟨b,o+k,none⟩=some (.int .u8 xs[k].toNat):=hcell k _ (by rw [qaX _ _ hkl];simp [hkl])
   have HT:=hid (Cof.tag_snoc key xs k hkl)
   have hx:=qiL (Cof.tag key (xs.take k)) xs[k] (Cof.tag_lt key HK.out _)
   generalize xs[k]=x at *
   generalize Cof.tag key (xs.take k)=t at *
   clear hcell hr
   go_wp2
   go_roundw
   case rel=>exact ⟨k+1,by omega,by go_num,by rw [HT.out,←qd9 t x hx],trivial⟩
   case measure=>simp [intOf];omega
  ·have hkn:k=m:=by omega
   subst hkn
   have HTK:=hid (show xs.take k=xs by rw [EM.out];exact List.take_length)
   rw [HTK.out]
   obtain ⟨t,ht⟩:∃t,t=Cof.tag key xs:=⟨_,rfl⟩
   rw [←ht]
   have HV:=hid ht
   clear ht
   go_wp2_with (go_at_call 198;refine (qcb t 8 _ (by decide)).mono ?_;rintro e w1 ⟨g,rfl,hown,hb1⟩)
   go_ret
   rw [←HV.out]
   exact ⟨_,rfl,hown,hb1⟩
def Cof.head (mode t l n s epoch size:Nat) (name:List UInt8):List UInt8 :=
 [UInt8.ofNat mode,UInt8.ofNat t,UInt8.ofNat l,UInt8.ofNat n,UInt8.ofNat s]++(Cof.high epoch 2++(Cof.high size 2++([UInt8.ofNat name.length]++name)))
theorem Cof.length_head (mode t l n s epoch size:Nat) (name:List UInt8):(Cof.head mode t l n s epoch size name).length=10+name.length:=by
 simp [Cof.head,Cof.length_high];omega
def qb3 (mode t l n s epoch size:Nat) (name:ByteArray):Nat→List UInt8
 | 0=>[UInt8.ofNat mode,UInt8.ofNat t,UInt8.ofNat l,UInt8.ofNat n,UInt8.ofNat s]
 | 1=>Cof.high epoch 2
 | 2=>Cof.high size 2
 | 3=>[UInt8.ofNat name.size]
 | _=>name.data.toList
def RowV (X:List UInt8) (v:Value) (w:World):Prop:=∃a c,v=.slice a X.length c∧Rd w a (bs X)∧(a=none→c=0)
theorem RowV.keeps {X:List UInt8} {v:Value} {w w':World} (h:RowV X v w) (hb:Below w.heap.size w w'):RowV X v w':=by
 obtain ⟨a,c,h1,h2,h3⟩:=h
 exact ⟨a,c,h1,h2.below hb nl,h3⟩
def qid (X:Nat→List UInt8) (M:Nat) (v:Value) (w:World):Prop:=∃g,v=.slice (some ⟨g,0,none⟩) M M∧g<w.heap.size∧∀k,k<M→∃u,w.cell? ⟨g,k,none⟩=some u∧RowV (X k) u w
theorem qid.keeps {X:Nat→List UInt8} {M:Nat} {v:Value} {w w':World} (h:qid X M v w) (hb:Below w.heap.size w w'):qid X M v w':=by
 obtain ⟨g,h1,h2,h3⟩:=h
 refine ⟨g,h1,Nat.lt_of_lt_of_le h2 hb.size,fun k hk=>?_⟩
 obtain ⟨u,h4,h5⟩:=h3 k hk
 exact ⟨u,by rw [hb.cell (by exact h2)];exact h4,h5.keeps hb⟩
def qia (B mode t l n s epoch size:Nat) (name:ByteArray):Nat→Value→World→Prop
 | 0,v,_=>v=.pointer (some ⟨B+1,0,none⟩)
 | 1,v,_=>v=.int .i64 mode
 | 2,v,_=>v=.int .u8 mode
 | 3,v,_=>v=.pointer (some ⟨B+1,1,none⟩)
 | 4,v,_=>v=.int .i64 t
 | 5,v,_=>v=.int .u8 t
 | 6,v,_=>v=.pointer (some ⟨B+1,2,none⟩)
 | 7,v,_=>v=.int .i64 l
 | 8,v,_=>v=.int .u8 l
 | 9,v,_=>v=.pointer (some ⟨B,6,none⟩)
 | 10,v,_=>v=.int .i64 n
 | 11,v,_=>v=.int .u8 n
 | 12,v,_=>v=.pointer (some ⟨B,7,none⟩)
 | 13,v,_=>v=.int .i64 s
 | 14,v,_=>v=.int .u8 s
 | 15,v,w=>RowV (qb3 mode t l n s epoch size name 0) v w
 | 16,v,_=>v=.pointer (some ⟨B,0,none⟩)
 | 17,v,_=>v=.pointer (some ⟨B,5,none⟩)
 | 18,v,_=>v=.int .i64 epoch
 | 19,v,_=>v=.int .u64 epoch
 | 20,v,w=>RowV (qb3 mode t l n s epoch size name 1) v w
 | 21,v,_=>v=.pointer (some ⟨B,0,none⟩)
 | 22,v,_=>v=.pointer (some ⟨B,4,none⟩)
 | 23,v,_=>v=.int .i64 size
 | 24,v,_=>v=.int .u64 size
 | 25,v,w=>RowV (qb3 mode t l n s epoch size name 2) v w
 | 26,v,_=>v=.string name
 | 27,v,_=>v=.int .i64 name.size
 | 28,v,_=>v=.int .u8 name.size
 | 29,v,w=>RowV (qb3 mode t l n s epoch size name 3) v w
 | 30,v,_=>v=.string name
 | 31,v,w=>RowV (qb3 mode t l n s epoch size name 4) v w
 | 32,v,w=>qid (qb3 mode t l n s epoch size name) 5 v w
 | 33,v,w=>w.ownsRow B 5 1 v (10+name.size) (bs (Cof.head mode t l n s epoch size name.data.toList))
 | 34,v,w=>w.ownsRow B 5 1 v (10+name.size) (bs (Cof.head mode t l n s epoch size name.data.toList))
 | _,_,_=>False
theorem qhj (B mode t l n s epoch size:Nat) (name:ByteArray) (j:Nat) (v:Value) (w w':World) (h:qia B mode t l n s epoch size name j v w) (hb:Below w.heap.size w w'):qia B mode t l n s epoch size name j v w':=by
 unfold qia at h ⊢
 split at h<;>first | exact h | exact RowV.keeps h hb | exact qid.keeps h hb | exact qae h hb nl|exact False.elim h
theorem qft (w:World) (e:TypeId) (L:List Value) (h:L.length≤100):Rd (w.alloc (.cells L.toArray e)) (some ⟨w.heap.size,0,none⟩) L :=
 qaC (qbn (base:=0) (e:=e) (by show (w.heap.push _)[w.heap.size]?=_;simp) (Nat.zero_le _) rfl (by unfold maxLen;omega))
theorem qlB (X:Nat→List UInt8) (M:Nat) (v:Value) (w:World) (hM:M≤10) (h:qid X M v w) (hX:∀k,k<M→(X k).length≤70) :
  Calls Tryz.prog 157 #[v] w fun e w'=>∃v,e=.returned v∧w'.ownsRow w.heap.size 5 1 v (flat X M).length (bs (flat X M))∧Below w.heap.size w w':=by
 obtain ⟨g,rfl,hg,h⟩:=h
 have h':∀k,∃p:Option Addr × Nat,k<M→w.cell? ⟨g,k,none⟩=some (.slice p.1 (X k).length p.2)∧Rd w p.1 (bs (X k))∧(p.1=none→p.2=0):=by
  intro k
  by_cases hk:k<M
  ·obtain ⟨u,h1,a,c,rfl,h2,h3⟩:=h k hk
   exact ⟨(a,c),fun _=>⟨h1,h2,h3⟩⟩
  ·exact ⟨(none,0),fun h=>absurd h hk⟩
 obtain ⟨f,hf⟩:=Classical.skolem.1 h'
 exact qlJ g M M (fun k=>(f k).1) (fun k=>(X k).length) (fun k=>(f k).2) X w hg hM fun k hk=>⟨(hf k hk).1,(hf k hk).2.1,rfl,hX k hk,(hf k hk).2.2⟩
theorem qdn {n:Nat} (h:n<256):IntKind.u8.wrap (n:Int)=n:=by
 rw [IntKind.wrap_u8]
 omega
theorem qfm (mode t l n s epoch size:Nat) (name:ByteArray) (w:World) (hp:qaj mode t l n) (hs:s<n) (he:epoch≤100) (hz:size≤60) (hnm:name.size≤12) :
  Calls Tryz.prog 156 #[.agg #[.string name,.int .i64 mode,.int .i64 t,.int .i64 l,.int .i64 size,.int .i64 epoch,.int .i64 n,.int .i64 s]] w fun e w'=>∃v,e=.returned v∧w'.ownsRow w.heap.size 5 1 v (10+name.size) (bs (Cof.head mode t l n s epoch size name.data.toList))∧Below w.heap.size w w':=by
 go_enter Tryz.func156,Tryz.ntmps156
 go_wp2_with fail
 go_region
 obtain ⟨w1,hw1⟩:∃w1,w1=((w.alloc (.cells #[.string name,.int .i64 mode,.int .i64 t,.int .i64 l,.int .i64 size,.int .i64 epoch,.int .i64 n,.int .i64 s] 224)).alloc (.cells #[.int .i64 mode,.int .i64 t,.int .i64 l] 29)).drew:=⟨_,rfl⟩
 have hb01:Below w.heap.size w w1:=by rw [hw1];exact (((Below.refl w.heap.size w).alloc nl _).alloc (by simp) _).drew
 have hz1:w1.heap.size=w.heap.size+2:=by rw [hw1];simp
 have k4:w1.cell? ⟨w.heap.size,4,none⟩=some (.int .i64 size):=by rw [hw1];simp
 have k5:w1.cell? ⟨w.heap.size,5,none⟩=some (.int .i64 epoch):=by rw [hw1];simp
 have k6:w1.cell? ⟨w.heap.size,6,none⟩=some (.int .i64 n):=by rw [hw1];simp
 have k7:w1.cell? ⟨w.heap.size,7,none⟩=some (.int .i64 s):=by rw [hw1];simp
 have p0:w1.cell? ⟨w.heap.size+1,0,none⟩=some (.int .i64 mode):=by rw [hw1];simp
 have p1:w1.cell? ⟨w.heap.size+1,1,none⟩=some (.int .i64 t):=by rw [hw1];simp
 have p2:w1.cell? ⟨w.heap.size+1,2,none⟩=some (.int .i64 l):=by rw [hw1];simp
 rw [←hw1]
 clear hw1
 go_wp2_with fail
 have HF:∀a:Act,(∀p∈[((1:Nat),Value.pointer (some ⟨w.heap.size,0,none⟩)),(3,.string name),(4,.pointer (some ⟨w.heap.size+1,0,none⟩))],a.tmps.getD p.1 undef=p.2)→a.tmps[1]?.getD undef=.pointer (some ⟨w.heap.size,0,none⟩)∧a.tmps[3]?.getD undef=.string name∧a.tmps[4]?.getD undef=.pointer (some ⟨w.heap.size+1,0,none⟩):=by
  intro a h
  simpa using h
 have HCELL:∀w':World,Below w1.heap.size { w1 with drawn:=w1.drawn+1 } w'→w'.cell? ⟨w.heap.size,4,none⟩=some (.int .i64 size)∧w'.cell? ⟨w.heap.size,5,none⟩=some (.int .i64 epoch)∧w'.cell? ⟨w.heap.size,6,none⟩=some (.int .i64 n)∧w'.cell? ⟨w.heap.size,7,none⟩=some (.int .i64 s)∧w'.cell? ⟨w.heap.size+1,0,none⟩=some (.int .i64 mode)∧w'.cell? ⟨w.heap.size+1,1,none⟩=some (.int .i64 t)∧w'.cell? ⟨w.heap.size+1,2,none⟩=some (.int .i64 l):=by
  intro w' hb
  exact ⟨(hb.cell (by show w.heap.size<w1.heap.size;omega)).trans k4,(hb.cell (by show w.heap.size<w1.heap.size;omega)).trans k5,(hb.cell (by show w.heap.size<w1.heap.size;omega)).trans k6,(hb.cell (by show w.heap.size<w1.heap.size;omega)).trans k7,(hb.cell (by show w.heap.size+1<w1.heap.size;omega)).trans p0,(hb.cell (by show w.heap.size+1<w1.heap.size;omega)).trans p1,(hb.cell (by show w.heap.size+1<w1.heap.size;omega)).trans p2⟩
 have hp':=hp
 obtain ⟨hn1,hn8,ht1,htn,hl1,hmd⟩:=hp'
 have e0:IntKind.u8.wrap (mode:Int)=mode:=qdn (by omega)
 have e1:IntKind.u8.wrap (t:Int)=t:=qdn (by omega)
 have e2:IntKind.u8.wrap (l:Int)=l:=qdn (by omega)
 have e3:IntKind.u8.wrap (n:Int)=n:=qdn (by omega)
 have e4:IntKind.u8.wrap (s:Int)=s:=qdn (by omega)
 have e5:IntKind.u8.wrap (name.size:Int)=name.size:=qdn (by omega)
 have e6:IntKind.u64.wrap (epoch:Int)=epoch:=by rw [IntKind.wrap_u64];omega
 have e7:IntKind.u64.wrap (size:Int)=size:=by rw [IntKind.wrap_u64];omega
 have HX0:bs (qb3 mode t l n s epoch size name 0)=[.int .u8 mode,.int .u8 t,.int .u8 l,.int .u8 n,.int .u8 s]:=by
  simp [qb3,bs]
  omega
 have HX3:bs (qb3 mode t l n s epoch size name 3)=[.int .u8 name.size]:=by
  simp [qb3,bs]
  omega
 have HL1:(qb3 mode t l n s epoch size name 1).length=2:=Cof.length_high _ _
 have HL2:(qb3 mode t l n s epoch size name 2).length=2:=Cof.length_high _ _
 have HL4:(qb3 mode t l n s epoch size name 4).length=name.size:=by simp [qb3]
 have HXL:∀k,k<5→(qb3 mode t l n s epoch size name k).length≤70:=by
  intro k hk
  rcases show k=0∨k=1∨k=2∨k=3∨k=4 by omega with rfl | rfl | rfl | rfl | rfl<;>first | omega | (simp [qb3];done)|(rw [HL4];omega)
 have HFL:flat (qb3 mode t l n s epoch size name) 5=Cof.head mode t l n s epoch size name.data.toList:=by
  simp [flat,qb3,Cof.head,List.range_succ]
 have HLN:(Cof.head mode t l n s epoch size name.data.toList).length=10+name.size:=by rw [Cof.length_head];simp
 clear k4 k5 k6 k7 p0 p1 p2
 refine qau (by kernel_rfl) (fun i=>if i=34 then 2 else i+11) (qia w.heap.size mode t l n s epoch size name) [(1,.pointer (some ⟨w.heap.size,0,none⟩)),(3,.string name),(4,.pointer (some ⟨w.heap.size+1,0,none⟩))] 45 [1,3,4] (by kernel_rfl) rfl rfl rfl ?_ (qhj w.heap.size mode t l n s epoch size name) ?_ ?_
 ·simp
 ·refine ⟨?_,?_,?_,?_,?_,?_,?_,?_,?_,?_,?_,?_,?_,?_,?_,?_,?_,?_,?_,?_,?_,?_,?_,?_,?_,?_,?_,?_,?_,?_,?_,?_,?_,?_,?_,trivial⟩
  all_goals
   intro a w' hb hf hd
   obtain ⟨f1,f3,f4⟩:=HF a hf
   obtain ⟨c4,c5,c6,c7,q0,q1,q2⟩:=HCELL w' hb
   simp [qia] at hd
   try (refine .inl ⟨_,w',?_,bl,rfl⟩;go_simp;done)
  ·refine .inl ⟨.slice (some ⟨w'.heap.size,0,none⟩) 5 5,w'.alloc (.cells #[.int .u8 mode,.int .u8 t,.int .u8 l,.int .u8 n,.int .u8 s] 5),?_,?_,?_⟩
   ·go_simp
   ·exact (Below.refl _ _).alloc nl _
   ·exact ⟨_,_,rfl,by rw [HX0];exact qft _ _ [_,_,_,_,_] (by simp),nofun⟩
  ·refine .inr ⟨198,#[.int .u64 epoch,.int .i64 2],by go_simp,(qcb epoch 2 w' (by decide)).mono ?_⟩
   rintro e w'' ⟨g,rfl,hown,hb2⟩
   exact ⟨_,rfl,hb2,_,_,by rw [HL1],qaC hown,nofun⟩
  ·refine .inr ⟨198,#[.int .u64 size,.int .i64 2],by go_simp,(qcb size 2 w' (by decide)).mono ?_⟩
   rintro e w'' ⟨g,rfl,hown,hb2⟩
   exact ⟨_,rfl,hb2,_,_,by rw [HL2],qaC hown,nofun⟩
  ·refine .inl ⟨.slice (some ⟨w'.heap.size,0,none⟩) 1 1,w'.alloc (.cells #[.int .u8 name.size] 5),?_,?_,?_⟩
   ·go_simp
   ·exact (Below.refl _ _).alloc nl _
   ·exact ⟨_,_,rfl,by rw [HX3];exact qft _ _ [_] (by simp),nofun⟩
  ·obtain ⟨cap,w2,hrun,hfb,hb2,hz2⟩:=qdK w' name
   refine .inl ⟨.slice (some ⟨w'.heap.size,0,none⟩) name.size cap,w2,?_,hb2,?_⟩
   ·go_simp
   ·exact ⟨_,_,by rw [HL4],hfb.rd (by omega),nofun⟩
  ·obtain ⟨⟨a0,k0,g0,r0,z0⟩,⟨a1,k1,g1,r1,z1⟩,⟨a2,k2,g2,r2,z2⟩,⟨a3,k3,g3,r3,z3⟩,⟨a4,k4,g4,r4,z4⟩⟩:=hd
   have hba:=(Below.refl w'.heap.size w').alloc nl (.cells #[.slice a0 (qb3 mode t l n s epoch size name 0).length k0,.slice a1 (qb3 mode t l n s epoch size name 1).length k1,.slice a2 (qb3 mode t l n s epoch size name 2).length k2,.slice a3 (qb3 mode t l n s epoch size name 3).length k3,.slice a4 (qb3 mode t l n s epoch size name 4).length k4] 50)
   refine .inl ⟨.slice (some ⟨w'.heap.size,0,none⟩) 5 5,_,?_,hba,?_⟩
   ·go_simp
   ·refine ⟨w'.heap.size,rfl,by simp,fun k hk=>?_⟩
    rcases show k=0∨k=1∨k=2∨k=3∨k=4 by omega with rfl | rfl | rfl | rfl | rfl
    ·exact ⟨_,by simp,a0,k0,rfl,r0.below hba nl,z0⟩
    ·exact ⟨_,by simp,a1,k1,rfl,r1.below hba nl,z1⟩
    ·exact ⟨_,by simp,a2,k2,rfl,r2.below hba nl,z2⟩
    ·exact ⟨_,by simp,a3,k3,rfl,r3.below hba nl,z3⟩
    ·exact ⟨_,by simp,a4,k4,rfl,r4.below hba nl,z4⟩
  ·refine .inr ⟨157,#[a.tmps[43]?.getD undef],by go_simp,(qlB (qb3 mode t l n s epoch size name) 5 _ w' (by decide) hd.1 HXL).mono ?_⟩
   rintro e w'' ⟨v,rfl,hown,hb2⟩
   rw [HFL] at hown
   refine ⟨_,rfl,hb2,?_⟩
   have:=hown.mono (show w.heap.size≤w'.heap.size by have:=hb.size;simp at this;omega)
   rw [HLN] at this
   exact this
  ·exact .inl ⟨a.tmps[44]?.getD undef,w',by go_simp,bl,hd.1⟩
 ·intro a w' hdf hsz hb hf hr
  have h34:=hr 34 (by decide)
  simp [qia] at h34
  go_wp2
  refine bodyPost_ret (v:=a.tmps[2]?.getD undef) ?_ hdf ⟨_,rfl,h34,hb01.drew.trans (hb.mono (show w.heap.size≤w1.heap.size by omega))⟩
  simp [results,Tryz.results156,go_sem,hsz]
end Go.Proofs.YtcegdgmbponapaaGreatDoor