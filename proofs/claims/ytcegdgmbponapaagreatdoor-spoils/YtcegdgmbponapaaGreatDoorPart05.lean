import Derived.Test.YtcegdgmbponapaaGreatDoorCompare
import Derived.Test.YtcegdgmbponapaaGreatDoorPart04
set_option maxRecDepth 100000
set_option maxHeartbeats 4000000
namespace Go.Proofs.YtcegdgmbponapaaGreatDoor
open Go.RowKit
abbrev cmpB (a b:ByteArray):Int:=Lib.compareBytes a.data.toList b.data.toList
theorem qgq:∀a b:List UInt8,Lib.compareBytes a b=0↔a=b
 | [],[]=>by simp [Lib.compareBytes]
 | [],_ :: _=>by simp [Lib.compareBytes]
 | _ :: _,[]=>by simp [Lib.compareBytes]
 | a :: ar,b :: br=>by
  simp only [Lib.compareBytes,List.cons.injEq]
  have ih:=qgq ar br
  split
  ·rename_i h
   refine ⟨fun e=>by simp at e,fun e=>?_⟩
   rw [e.1] at h
   exact absurd h (UInt8.lt_irrefl _)
  ·split
   ·rename_i h1 h2
    refine ⟨fun e=>by simp at e,fun e=>?_⟩
    rw [e.1] at h2
    exact absurd h2 (UInt8.lt_irrefl _)
   ·rename_i h1 h2
    have:a=b:=UInt8.le_antisymm (UInt8.not_lt.1 h2) (UInt8.not_lt.1 h1)
    rw [ih]
    exact ⟨fun e=>⟨this,e⟩,fun e=>e.2⟩
theorem qfd:∀a b c:List UInt8,Lib.compareBytes a b<0→Lib.compareBytes b c<0→Lib.compareBytes a c<0
 | [],[],c,h,_=>by simp [Lib.compareBytes] at h
 | [],_ :: _,[],_,h=>by simp [Lib.compareBytes] at h
 | [],_ :: _,_ :: _,_,_=>by simp [Lib.compareBytes]
 | _ :: _,[],_,h,_=>by simp [Lib.compareBytes] at h
 | _ :: _,_ :: _,[],_,h=>by simp [Lib.compareBytes] at h
 | a :: ar,b :: br,c :: cs,h1,h2=>by
  simp only [Lib.compareBytes] at h1 h2 ⊢
  have ih:=qfd ar br cs
  split at h1
  ·rename_i hab
   split at h2
   ·rename_i hbc
    rw [if_pos (UInt8.lt_trans hab hbc)];decide
   ·rename_i hbc
    split at h2
    ·simp at h2
    ·rename_i hcb
     have:b=c:=UInt8.le_antisymm (UInt8.not_lt.1 hcb) (UInt8.not_lt.1 hbc)
     rw [if_pos (this ▸ hab)];decide
  ·rename_i hab
   split at h1
   ·simp at h1
   ·rename_i hba
    have e:a=b:=UInt8.le_antisymm (UInt8.not_lt.1 hba) (UInt8.not_lt.1 hab)
    subst e
    split at h2
    ·rename_i hbc
     rw [if_pos hbc];decide
    ·rename_i hbc
     split at h2
     ·simp at h2
     ·rename_i hcb
      rw [if_neg hbc,if_neg hcb]
      exact ih h1 h2
theorem qge:∀a b:List UInt8,Lib.compareBytes a b=- Lib.compareBytes b a
 | [],[]=>by simp [Lib.compareBytes]
 | [],_ :: _=>by simp [Lib.compareBytes]
 | _ :: _,[]=>by simp [Lib.compareBytes]
 | a :: ar,b :: br=>by
  simp only [Lib.compareBytes]
  have ih:=qge ar br
  by_cases h1:a<b
  ·have h2:¬b<a:=fun h=>UInt8.lt_irrefl _ (UInt8.lt_trans h1 h)
   simp [h1,h2]
  ·by_cases h2:b<a
   ·simp [h1,h2]
   ·simp [h1,h2,ih]
theorem qg9 {a b:ByteArray} (h:a.data.toList=b.data.toList):a=b:=by
 cases a;cases b;simp at h;rw [h]
theorem qaB {a b:ByteArray}:cmpB a b=0↔a=b:=by
 unfold cmpB
 rw [qgq]
 exact ⟨qg9,fun h=>by rw [h]⟩
theorem qbR {a b c:ByteArray} (h1:cmpB a b<0) (h2:cmpB b c<0):cmpB a c<0:=qfd _ _ _ h1 h2
theorem qdW (a b:ByteArray):cmpB a b=- cmpB b a:=qge _ _
structure RecV where
 name:ByteArray
 mode:Nat
 t:Nat
 l:Nat
 size:Nat
 epoch:Nat
 sa:Option Addr
 sn:Nat
 sc:Nat
 na:Option Addr
 nn:Nat
 nc:Nat
instance : Inhabited RecV:=⟨⟨ByteArray.empty,0,0,0,0,0,none,0,0,none,0,0⟩⟩
def RecV.cells (r:RecV):List Value:=[.string r.name,.int .i64 r.mode,.int .i64 r.t,.int .i64 r.l,.int .i64 r.size,.int .i64 r.epoch,.slice r.sa r.sn r.sc,.slice r.na r.nn r.nc]
def RecV.val (r:RecV):Value:=.agg #[.string r.name,.int .i64 r.mode,.int .i64 r.t,.int .i64 r.l,.int .i64 r.size,.int .i64 r.epoch,.slice r.sa r.sn r.sc,.slice r.na r.nn r.nc]
def recs (rs:List RecV):List Value:=rs.flatMap RecV.cells
theorem qah (rs:List RecV):(recs rs).length=rs.length*8:=by
 induction rs with
 | nil=>rfl
 | cons r rs ih=>simp only [recs,List.flatMap_cons,List.length_append] at ih ⊢;rw [ih];simp [RecV.cells];omega
theorem qiM (rs:List RecV) (k j:Nat) (hk:k<rs.length) (hj:j<8):(recs rs)[k*8+j]?=(rs[k]).cells[j]?:=by
 induction rs generalizing k with
 | nil=>simp at hk
 | cons r rs ih =>
  cases k with
  | zero =>
   simp only [recs,List.flatMap_cons,List.getElem_cons_zero,Nat.zero_mul,Nat.zero_add]
   rw [List.getElem?_append_left (by simp [RecV.cells];exact hj)]
  | succ k =>
   have:=ih k (by simpa using hk)
   simp only [recs,List.flatMap_cons,List.getElem_cons_succ] at this ⊢
   rw [←this,List.getElem?_append_right (by simp [RecV.cells];omega),show (k+1)*8+j-r.cells.length=k*8+j by simp [RecV.cells];omega]
def Sorted (rs:List RecV):Prop:=∀i j,i<j→j<rs.length→cmpB (rs[i]!).name (rs[j]!).name<0
theorem Sorted.mono {rs:List RecV} (h:Sorted rs) (nm:ByteArray) (i j:Nat) (hij:i≤j) (hj:j<rs.length) (hc:cmpB (rs[j]!).name nm<0):cmpB (rs[i]!).name nm<0:=by
 rcases Nat.eq_or_lt_of_le hij with rfl | hlt
 ·exact hc
 ·exact qbR (h i j hlt hj) hc
def qai (rs:List RecV) (nm:ByteArray):Nat:=rs.countP fun r=>decide (cmpB r.name nm<0)
theorem qhG (rs:List RecV) (nm:ByteArray):∀(i:Nat),i≤rs.length→(∀k,k<i→cmpB (rs[k]!).name nm<0)→(∀k,i≤k→k<rs.length→¬cmpB (rs[k]!).name nm<0)→qai rs nm=i:=by
 induction rs with
 | nil=>intro i hi _ _;simp at hi;simp [qai,hi]
 | cons r rs ih =>
  intro i hi h1 h2
  cases i with
  | zero =>
   unfold qai
   rw [List.countP_eq_zero]
   intro x hx
   obtain ⟨k,hk,rfl⟩:=List.getElem_of_mem hx
   have:=h2 k (Nat.zero_le _) hk
   rw [getElem!_pos (r :: rs) k hk] at this
   simpa using this
  | succ i =>
   have ha:cmpB r.name nm<0:=by simpa using h1 0 (Nat.succ_pos _)
   have:=ih i (by simpa using hi) (fun k hk=>by simpa using h1 (k+1) (by omega)) (fun k h3 h4=>by simpa using h2 (k+1) (by omega) (by simpa using h4))
   unfold qai at this ⊢
   rw [List.countP_cons_of_pos (by simpa using ha),this]
theorem qh9 (rs:List RecV) (nm:ByteArray):qai rs nm≤rs.length:=List.countP_le_length ..
def hasName (rs:List RecV) (nm:ByteArray):Bool:=decide (qai rs nm<rs.length) && decide (cmpB (rs[qai rs nm]!).name nm=0)
attribute [local go_sem ↓] Go.wp_at_zero Go.wp_at_succ
theorem Tryz.cellsRec:(Tryz.prog.info? 152).map (fun i=>i.size)=some 8:=by kernel_rfl
theorem qjY (r:RecV) (nm:ByteArray) (w:World) :
  Calls Tryz.prog 188 #[.agg #[.string r.name,.int .i64 r.mode,.int .i64 r.t,.int .i64 r.l,.int .i64 r.size,.int .i64 r.epoch,.slice r.sa r.sn r.sc,.slice r.na r.nn r.nc],.string nm] w fun e w'=>e=.returned (.int .i64 (cmpB r.name nm))∧Below w.heap.size w w':=by
 obtain ⟨name,mode,t,l,size,epoch,sa,sn,sc,na,nn,nc⟩:=r
 have hba:=(Below.refl w.heap.size w).alloc nl (.cells #[.string name,.int .i64 mode,.int .i64 t,.int .i64 l,.int .i64 size,.int .i64 epoch,.slice sa sn sc,.slice na nn nc] 152)
 go_enter Tryz.func188,Tryz.ntmps188
 go_wp2_with (go_at_call 189;refine (Tryz.strings_Compare _ _ _).mono ?_;rintro e w1 ⟨rfl,rfl⟩)
 go_ret
 exact ⟨rfl,hba⟩
theorem qcY {w:World} {b o:Nat} {rs:List RecV} (h:Rd w (some ⟨b,o,none⟩) (recs rs)) (k:Nat) (hk:k<rs.length):b<w.heap.size ∧
  w.cell? ⟨b,o+k*8,none⟩=some (.string (rs[k]!).name)∧w.cell? ⟨b,o+k*8+1,none⟩=some (.int .i64 (rs[k]!).mode)∧w.cell? ⟨b,o+k*8+2,none⟩=some (.int .i64 (rs[k]!).t)∧w.cell? ⟨b,o+k*8+3,none⟩=some (.int .i64 (rs[k]!).l) ∧
  w.cell? ⟨b,o+k*8+4,none⟩=some (.int .i64 (rs[k]!).size)∧w.cell? ⟨b,o+k*8+5,none⟩=some (.int .i64 (rs[k]!).epoch)∧w.cell? ⟨b,o+k*8+6,none⟩=some (.slice (rs[k]!).sa (rs[k]!).sn (rs[k]!).sc)∧w.cell? ⟨b,o+k*8+7,none⟩=some (.slice (rs[k]!).na (rs[k]!).nn (rs[k]!).nc):=by
 rw [getElem!_pos rs k hk]
 have key:∀j v,j<8→(rs[k]).cells[j]?=some v→b<w.heap.size∧w.cell? ⟨b,o+(k*8+j),none⟩=some v:=by
  intro j v hj hv
  obtain ⟨b',o',h1,h2,h3⟩:=h (k*8+j) v (by rw [qiM rs k j hk hj];exact hv)
  simp at h1
  obtain ⟨rfl,rfl⟩:=h1
  exact ⟨h2,h3⟩
 refine ⟨(key 0 _ (by decide) rfl).1,?_,?_,?_,?_,?_,?_,?_,?_⟩
 ·exact (key 0 _ (by decide) rfl).2
 ·exact (key 1 _ (by decide) rfl).2
 ·exact (key 2 _ (by decide) rfl).2
 ·exact (key 3 _ (by decide) rfl).2
 ·exact (key 4 _ (by decide) rfl).2
 ·exact (key 5 _ (by decide) rfl).2
 ·exact (key 6 _ (by decide) rfl).2
 ·exact (key 7 _ (by decide) rfl).2
theorem qip (a:Option Addr) (n c:Nat) (rs:List RecV) (nm:ByteArray) (w:World) (en:n=rs.length) (hr:Rd w a (recs rs)) (hn:n≤100) (hs:Sorted rs) :
  Calls Tryz.prog 187 #[.slice a n c,.string nm,.func (.func 188) #[] #[]] w fun e w'=>e=.returned (.tuple #[.int .i64 (qai rs nm:Nat),.bool (hasName rs nm)])∧Below w.heap.size w w':=by
 have EN:=hid en
 have HS:=hid hs
 have HR:=hid hr
 clear en hs hr
 go_enter Tryz.func187,Tryz.ntmps187
 go_wp2
 go_loopw [9,10] (fun u v wr=>∃lo hi:Nat,u=.int .i64 lo∧v=.int .i64 hi∧lo≤hi∧hi≤n∧(∀k,k<lo→cmpB (rs[k]!).name nm<0)∧(∀k,hi≤k→k<n→0≤cmpB (rs[k]!).name nm)∧Below w.heap.size w wr) (fun u v _=>(intOf v).toNat-(intOf u).toNat)
 case atStart=>exact ⟨0,n,rfl,rfl,Nat.zero_le _,Nat.le_refl _,fun k hk=>by omega,fun k h1 h2=>by omega,bl⟩
 case round =>
  obtain ⟨lo,hi,rfl,rfl,hlh,hhn,hbelow,habove,hbel⟩:=hrel
  have HBL:=hid hbelow
  have HAB:=hid habove
  clear hbelow habove
  by_cases hlt:lo<hi
  ·obtain ⟨md,hmd⟩:∃md,md=(lo+hi) / 2:=⟨_,rfl⟩
   have hm1:lo≤md:=by omega
   have hm2:md<hi:=by omega
   have hlt':(lo:Int)<(hi:Int):=by omega
   obtain ⟨b,o,rfl,hb,_⟩:=HR.out.pos (by rw [qah,←EN.out];omega)
   obtain ⟨_,k0,k1,k2,k3,k4,k5,k6,k7⟩:=qcY (HR.out.below hbel nl) md (by rw [←EN.out];omega)
   have hhalf:((lo:Int)+(hi:Int)) / 2=(md:Int):=by omega
   have hmn:(md:Int)<(n:Int):=by omega
   have HMD:=hid hmd
   clear hmd
   obtain ⟨r,hr⟩:∃r,r=rs[md]! := ⟨_,rfl⟩
   rw [←hr] at k0 k1 k2 k3 k4 k5 k6 k7
   have HRR:=hid hr
   clear hr
   have HC:=hid (fun w'=>qjY r nm w')
   by_cases hneg:cmpB r.name nm<0
   ·have HLT:=hid hneg
    go_wp2_with fail
    refine (HC.out _).mono ?_
    rintro e w1 ⟨rfl,hb1⟩
    have hb01:=hbel.trans (hb1.mono hbel.size)
    go_wp2
    go_roundw
    case rel=>exact ⟨md+1,hi,by go_num,rfl,by omega,hhn,fun k hk=>HS.out.mono nm k md (by omega) (by rw [←EN.out];omega) (by rw [←HRR.out];exact HLT.out),HAB.out,hb01⟩
    case measure=>simp [intOf];omega
   ·have HLT:=hid hneg
    go_wp2_with fail
    refine (HC.out _).mono ?_
    rintro e w1 ⟨rfl,hb1⟩
    have hb01:=hbel.trans (hb1.mono hbel.size)
    go_wp2
    go_roundw
    case rel=>exact ⟨lo,md,rfl,rfl,hm1,by omega,HBL.out,fun k h1 h2=>Int.not_lt.1 fun h3=>Int.not_lt.2 HLT.out (by rw [HRR.out];exact HS.out.mono nm md k h1 (by rw [←EN.out];exact h2) h3),hb01⟩
    case measure=>simp [intOf];omega
  ·have hlo:hi=lo:=by omega
   subst hlo
   have HP:=hid (qhG rs nm hi (by rw [←EN.out];exact hhn) HBL.out (fun k h1 h2=>Int.not_lt.2 (HAB.out k h1 (by rw [EN.out];exact h2))))
   have HHN:=hid (show hasName rs nm=(decide (hi<n) && decide (cmpB (rs[hi]!).name nm=0)) by unfold hasName;rw [HP.out,EN.out])
   by_cases hin:hi<n
   ·obtain ⟨b,o,rfl,hb,_⟩:=HR.out.pos (by rw [qah,←EN.out];omega)
    obtain ⟨_,k0,k1,k2,k3,k4,k5,k6,k7⟩:=qcY (HR.out.below hbel nl) hi (by rw [←EN.out];omega)
    obtain ⟨r,hr⟩:∃r,r=rs[hi]! := ⟨_,rfl⟩
    rw [←hr] at k0 k1 k2 k3 k4 k5 k6 k7 HHN
    clear hr
    have hin':(hi:Int)<(n:Int):=by omega
    have HIN:=hid hin
    clear hin
    go_wp2_with fail
    refine (qjY r nm _).mono ?_
    rintro e w1 ⟨rfl,hb1⟩
    have hb01:=hbel.trans (hb1.mono hbel.size)
    go_wp2
    go_ret2
    rw [HP.out,HHN.out,decide_eq_true HIN.out]
    exact ⟨rfl,hb01⟩
   ·have hin':¬(hi:Int)<(n:Int):=by omega
    have HIN:=hid hin
    clear hin
    go_wp2
    go_ret2
    rw [HP.out,HHN.out,decide_eq_false HIN.out]
    exact ⟨rfl,hbel⟩
structure St (w:World) (S:Nat) (down:Bool) (a:Option Addr) (c:Nat) (rs:List RecV):Prop where
 lt:S<w.heap.size
 c0:w.cell? ⟨S,0,none⟩=some (.bool down)
 c1:w.cell? ⟨S,1,none⟩=some (.slice a rs.length c)
 rd:Rd w a (recs rs)
 so:Sorted rs
 le:rs.length≤10
theorem St.keeps {B:Nat} {w w':World} {S:Nat} {down:Bool} {a:Option Addr} {c:Nat} {rs:List RecV} (h:St w S down a c rs) (hb:Below B w w') (hB:w.heap.size≤B):St w' S down a c rs :=
 ⟨Nat.lt_of_lt_of_le h.lt hb.size,by rw [hb.cell (by exact Nat.lt_of_lt_of_le h.lt hB)];exact h.c0,by rw [hb.cell (by exact Nat.lt_of_lt_of_le h.lt hB)];exact h.c1,h.rd.below hb hB,h.so,h.le⟩
theorem qcw (S:Nat) (down:Bool) (a:Option Addr) (c:Nat) (rs:List RecV) (nm:ByteArray) (w:World) (h:St w S down a c rs) :
  Calls Tryz.prog 139 #[.pointer (some ⟨S,0,none⟩),.string nm] w fun e w'=>e=.returned (.tuple #[.int .i64 (qai rs nm:Nat),.bool (hasName rs nm)])∧Below w.heap.size w w':=by
 have HS:=hid (qip a rs.length c rs nm w rfl h.rd (Nat.le_trans h.le (by decide)) h.so)
 have c1:=h.c1
 generalize qai rs nm=p at *
 generalize hasName rs nm=q at *
 generalize rs.length=n at *
 clear h
 go_enter Tryz.func139,Tryz.ntmps139
 go_wp2_with fail
 refine HS.out.mono ?_
 rintro e w1 ⟨rfl,hb1⟩
 go_wp2
 go_ret2
 exact ⟨rfl,hb1⟩
theorem Chain.other {w w':World} {k:Int} {d:Nat} {e:Value} (h:Chain w k d e) (g:Nat) (hne:∀t v,w.cell? ⟨g,1,none⟩≠some (.iface t v)) (hb:∀b,b≠g→w'.heap[b]?=w.heap[b]?) (hs:w.heap.size≤w'.heap.size):Chain w' k d e:=by
 induction h with
 | hit=>exact .hit
 | place d b e h hc hlt ih =>
  obtain ⟨t,v,rfl⟩:=h.shape
  have hbg:b≠g:=fun e=>hne t v (by rw [←e];exact hc)
  exact .place d b _ ih (by rw [World.cell?_of_block (hb b hbg)];exact hc) (by omega)
theorem qef (S:Nat) (down:Bool) (a:Option Addr) (c:Nat) (rs:List RecV) (nm:ByteArray) (w:World) (h:St w S down a c rs) (hno:hasName rs nm=false) :
  Calls Tryz.prog 85 #[.pointer (some ⟨S,0,none⟩),.string nm] w fun e w'=>∃ev,e=.returned (.tuple #[.agg #[.string ByteArray.empty,.int .i64 0,.int .i64 0,.int .i64 0,.int .i64 0,.int .i64 0,.slice none 0 0,.slice none 0 0],ev])∧Chain w' 9 1 ev∧Below w.heap.size w w':=by
 have hba:=(Below.refl w.heap.size w).alloc nl (.cells #[.string ByteArray.empty,.int .i64 0,.int .i64 0,.int .i64 0,.int .i64 0,.int .i64 0,.slice none 0 0,.slice none 0 0] 152)
 have HP:=hid (qcw S down a c rs nm _ (h.keeps hba nl))
 rw [hno] at HP
 clear h hno
 go_enter Tryz.func85,Tryz.ntmps85
 go_wp2_with fail
 refine HP.out.mono ?_
 rintro e w1 ⟨rfl,hb1⟩
 obtain ⟨hc1,hf1⟩:=qbM hb1
 go_wp2_with (go_at_call 78;refine (qav _ _ 9 0 _ .hit).mono ?_;rintro e w2 ⟨e2,rfl,hch,hb2⟩;have HCH:=hid hch;clear hch;obtain ⟨hc2,hf2⟩:=qbM (hb1.trans (hb2.mono hb1.size)))
 have hz2:w.heap.size<w2.heap.size:=by have:=hb1.size;have:=hb2.size;simp at *;omega
 have d1:w2.cell? ⟨w.heap.size,1,none⟩=some (.int .i64 0):=(hc2 _ _ (by simp)).trans (by simp)
 have hb02:Below w.heap.size w w2:=(hba.trans (hb1.mono (by simp))).trans (hb2.mono (by have:=hb1.size;simp at this;omega))
 refine bodyPost_ret (v:=.tuple #[.agg #[.string ByteArray.empty,.int .i64 0,.int .i64 0,.int .i64 0,.int .i64 0,.int .i64 0,.slice none 0 0,.slice none 0 0],e2]) ?_ rfl ⟨_,rfl,HCH.out.other w.heap.size (by intro t v;rw [d1];simp) (fun b hb=>?_) (by simp),?_⟩
 ·simp [results,Tryz.results85,go_sem,hc2]
  rfl
 ·simp [Below.heap_setCell,hb]
 ·exact (((((((hb02.setCell nl _).setCell nl _).setCell nl _).setCell nl _).setCell nl _).setCell nl _).setCell nl _).setCell nl _
theorem qbD (S:Nat) (down:Bool) (a:Option Addr) (c:Nat) (rs:List RecV) (r:RecV) (nm:ByteArray) (w:World) (h:St w S down a c rs) (hyes:hasName rs nm=true) (hr:r=rs[qai rs nm]!) :
  Calls Tryz.prog 85 #[.pointer (some ⟨S,0,none⟩),.string nm] w fun e w'=>e=.returned (.tuple #[.agg #[.string r.name,.int .i64 r.mode,.int .i64 r.t,.int .i64 r.l,.int .i64 r.size,.int .i64 r.epoch,.slice r.sa r.sn r.sc,.slice r.na r.nn r.nc],.nilIface])∧Below w.heap.size w w':=by
 have hba:=(Below.refl w.heap.size w).alloc nl (.cells #[.string ByteArray.empty,.int .i64 0,.int .i64 0,.int .i64 0,.int .i64 0,.int .i64 0,.slice none 0 0,.slice none 0 0] 152)
 have hS:=h.keeps hba nl
 have HP:=hid (qcw S down a c rs nm _ hS)
 rw [hyes] at HP
 have hlt:qai rs nm<rs.length:=by unfold hasName at hyes;simp at hyes;exact hyes.1
 have hle:=h.le
 have HST:=hid hS
 have hSlt:=h.lt
 obtain ⟨p,hp⟩:∃p,p=qai rs nm:=⟨_,rfl⟩
 rw [←hp] at HP hlt hr
 clear h hyes hS hp
 go_enter Tryz.func85,Tryz.ntmps85
 go_wp2_with fail
 refine HP.out.mono ?_
 rintro e w1 ⟨rfl,hb1⟩
 have hS1:=HST.out.keeps hb1 nl
 have c1:=hS1.c1
 obtain ⟨b,o,rfl,hb,_⟩:=hS1.rd.pos (by rw [qah];omega)
 obtain ⟨_,k0,k1,k2,k3,k4,k5,k6,k7⟩:=qcY hS1.rd p hlt
 rw [←hr] at k0 k1 k2 k3 k4 k5 k6 k7
 have hc1:∀o,w1.cell? ⟨w.heap.size,o,none⟩=_:=fun o=>(qbM hb1).1 w.heap.size o (by simp)
 have hf1:∀o,w1.frozen? ⟨w.heap.size,o,none⟩=_:=fun o=>(qbM hb1).2 w.heap.size o (by simp)
 have hz1:w.heap.size<w1.heap.size:=by have:=hb1.size;simp at this;omega
 have hb01:Below w.heap.size w w1:=hba.trans (hb1.mono (by simp))
 have hlt':(p:Int)<(rs.length:Int):=by omega
 generalize rs.length=n at *
 clear hr hS1 HST HP
 go_wp2_with fail
 refine bodyPost_ret (v:=.tuple #[.agg #[.string r.name,.int .i64 r.mode,.int .i64 r.t,.int .i64 r.l,.int .i64 r.size,.int .i64 r.epoch,.slice r.sa r.sn r.sc,.slice r.na r.nn r.nc],.nilIface]) ?_ rfl ⟨rfl,?_⟩
 ·simp [results,Tryz.results85,go_sem,hc1]
 ·exact (((((((hb01.setCell nl _).setCell nl _).setCell nl _).setCell nl _).setCell nl _).setCell nl _).setCell nl _).setCell nl _
theorem Chain.setCell {w:World} {k:Int} {d:Nat} {e:Value} (h:Chain w k d e) (g o:Nat) (u:Value) (hne:∀t v,w.cell? ⟨g,1,none⟩≠some (.iface t v)):Chain (w.setCell ⟨g,o,none⟩ u) k d e:=by
 induction h with
 | hit=>exact .hit
 | place d b e h hc hb ih =>
  obtain ⟨t,v,rfl⟩:=h.shape
  have hbg:b≠g:=fun e=>hne t v (by rw [←e];exact hc)
  exact .place d b _ ih (by rw [World.cell?_of_block (Below.heap_setCell w ⟨g,o,none⟩ u b hbg)];exact hc) (by simpa using hb)
def qeo:Value:=.agg #[.slice none 0 0,.slice none 0 0,.int .i64 0]
theorem Chain.setLay {w:World} {k:Int} {d:Nat} {e:Value} (h:Chain w k d e) (g:Nat) (h1:w.cell? ⟨g,1,none⟩=some (.slice none 0 0)) :
  Chain (((w.setCell ⟨g,0,none⟩ (.slice none 0 0)).setCell ⟨g,1,none⟩ (.slice none 0 0)).setCell ⟨g,2,none⟩ (.int .i64 0)) k d e:=by
 have e1:(w.setCell ⟨g,0,none⟩ (.slice none 0 0)).cell? ⟨g,1,none⟩=some (.slice none 0 0):=by
  simp [go_sem,h1]
 have e2:((w.setCell ⟨g,0,none⟩ (.slice none 0 0)).setCell ⟨g,1,none⟩ (.slice none 0 0)).cell? ⟨g,1,none⟩=some (.slice none 0 0):=World.cell?_setCell_same _ _ _ e1
 refine ((h.setCell g 0 _ ?_).setCell g 1 _ ?_).setCell g 2 _ ?_
 ·intro t v;rw [h1];simp
 ·intro t v;rw [e1];simp
 ·intro t v;rw [e2];simp
theorem qdG (m t l n size:Int) (w:World) (hm:I64 m) (ht:I64 t) (hl:I64 l) (hn:I64 n) (h:¬(1≤n∧n≤8∧Fits m t l n)) (hT:Tab w) :
  Calls Tryz.prog 91 #[.agg #[.int .i64 m,.int .i64 t,.int .i64 l],.int .i64 n,.int .i64 size] w fun e w' =>
   ∃ev,e=.returned (.tuple #[qeo,ev])∧Chain w' 3 1 ev∧Below w.heap.size w w':=by
 have hba:=((Below.refl w.heap.size w).alloc nl (.cells #[.int .i64 m,.int .i64 t,.int .i64 l] 29)).alloc (by simp) (.cells #[.slice none 0 0,.slice none 0 0,.int .i64 0] 165)
 have HH:=hid (qfE m t l n _ hm ht hl hn h (hT.keeps hba nl))
 clear h hT hm ht hl hn
 go_enter Tryz.func91,Tryz.ntmps91
 go_wp2_with fail
 refine HH.out.mono ?_
 rintro e w1 ⟨ev,rfl,hch,hb1⟩
 obtain ⟨te,ve,rfl⟩:=hch.shape
 obtain ⟨hc1,hf1⟩:=qbM hb1
 have HC:=hid hch
 have hz1:w.heap.size+1<w1.heap.size:=by have:=hb1.size;simp at this;omega
 have c0:w1.cell? ⟨w.heap.size+1,0,none⟩=some (.slice none 0 0):=(hc1 _ _ (by simp)).trans (by simp)
 have c1:w1.cell? ⟨w.heap.size+1,1,none⟩=some (.slice none 0 0):=(hc1 _ _ (by simp)).trans (by simp)
 have c2:w1.cell? ⟨w.heap.size+1,2,none⟩=some (.int .i64 0):=(hc1 _ _ (by simp)).trans (by simp)
 clear hch
 go_wp2_with fail
 refine bodyPost_ret (v:=.tuple #[qeo,.iface te ve]) ?_ rfl ⟨_,rfl,HC.out.setLay _ c1,?_⟩
 ·simp [results,Tryz.results91,go_sem,hc1,qeo]
 ·exact ((hba.trans (hb1.mono (by simp;omega))).setCell (by simp) _ |>.setCell (by simp) _).setCell (by simp) _
theorem qfn (mode t l n:Nat) (size:Int) (w:World) (h:qaj mode t l n) (hs:I64 size) (hbig:size<0∨60<size) (hT:Tab w) :
  Calls Tryz.prog 91 #[.agg #[.int .i64 mode,.int .i64 t,.int .i64 l],.int .i64 n,.int .i64 size] w fun e w' =>
   ∃ev,e=.returned (.tuple #[qeo,ev])∧Chain w' 4 1 ev∧Below w.heap.size w w':=by
 have hba:=((Below.refl w.heap.size w).alloc nl (.cells #[.int .i64 mode,.int .i64 t,.int .i64 l] 29)).alloc (by simp) (.cells #[.slice none 0 0,.slice none 0 0,.int .i64 0] 165)
 have HT:=hid (hT.keeps hba nl)
 have HS:=hid hs
 have HP:=hid h
 clear hT h
 rcases hbig with hbig | hbig
 ·go_enter Tryz.func91,Tryz.ntmps91
  go_wp2_with fail
  refine (qct mode t l n _ HP.out).mono ?_
  rintro e w1 ⟨rfl,hb1⟩
  have HT1:=hid (HT.out.keeps hb1 nl)
  go_wp2_with (go_at_call 130;refine (qa9 size _ _ 4 0 _ HS.out (by decide) HT1.out .hit).mono ?_;rintro e w3 ⟨ev,rfl,hch,hb3⟩;obtain ⟨hc3,hf3⟩:=qbM (hb1.trans (hb3.mono hb1.size));have hz3:w.heap.size+1<w3.heap.size:=(by have:=hb1.size;have:=hb3.size;simp at *;omega);have c0:w3.cell? ⟨w.heap.size+1,0,none⟩=some (.slice none 0 0):=(hc3 _ _ (by simp)).trans (by simp);have c1:w3.cell? ⟨w.heap.size+1,1,none⟩=some (.slice none 0 0):=(hc3 _ _ (by simp)).trans (by simp);have HC:=hid hch;clear hch)
  refine bodyPost_ret (v:=.tuple #[qeo,ev]) ?_ rfl ⟨_,rfl,HC.out.setLay _ c1,?_⟩
  ·simp [results,Tryz.results91,go_sem,hc3,qeo]
  ·exact (((hba.trans (hb1.mono (by simp;omega))).trans (hb3.mono (by have:=hb1.size;simp at this;omega))).setCell (by simp) _ |>.setCell (by simp) _).setCell (by simp) _
 ·have h0:¬size<0:=by omega
  go_enter Tryz.func91,Tryz.ntmps91
  go_wp2_with fail
  refine (qct mode t l n _ HP.out).mono ?_
  rintro e w1 ⟨rfl,hb1⟩
  have HT1:=hid (HT.out.keeps hb1 nl)
  go_wp2_with (go_at_call 130;refine (qa9 size _ _ 4 0 _ HS.out (by decide) HT1.out .hit).mono ?_;rintro e w3 ⟨ev,rfl,hch,hb3⟩;obtain ⟨hc3,hf3⟩:=qbM (hb1.trans (hb3.mono hb1.size));have hz3:w.heap.size+1<w3.heap.size:=(by have:=hb1.size;have:=hb3.size;simp at *;omega);have c0:w3.cell? ⟨w.heap.size+1,0,none⟩=some (.slice none 0 0):=(hc3 _ _ (by simp)).trans (by simp);have c1:w3.cell? ⟨w.heap.size+1,1,none⟩=some (.slice none 0 0):=(hc3 _ _ (by simp)).trans (by simp);have HC:=hid hch;clear hch)
  refine bodyPost_ret (v:=.tuple #[qeo,ev]) ?_ rfl ⟨_,rfl,HC.out.setLay _ c1,?_⟩
  ·simp [results,Tryz.results91,go_sem,hc3,qeo]
  ·exact (((hba.trans (hb1.mono (by simp;omega))).trans (hb3.mono (by have:=hb1.size;simp at this;omega))).setCell (by simp) _ |>.setCell (by simp) _).setCell (by simp) _
theorem qcO (l:List Nat) (p q:Nat→Bool) (h:∀x∈l,q x=true→p x=true) (i:Nat) (hi:i∈l) (hp:p i=true) (hq:q i=false):l.countP q<l.countP p:=by
 induction l with
 | nil=>simp at hi
 | cons x l ih =>
  have hle:l.countP q≤l.countP p:=List.countP_mono_left fun y hy=>h y (List.mem_cons_of_mem _ hy)
  rcases List.mem_cons.1 hi with rfl | hi
  ·rw [List.countP_cons_of_neg (by simp [hq]),List.countP_cons_of_pos hp]
   omega
  ·have:=ih (fun y hy=>h y (List.mem_cons_of_mem _ hy)) hi
   by_cases hx:q x=true
   ·rw [List.countP_cons_of_pos hx,List.countP_cons_of_pos (h x (List.mem_cons_self ..) hx)]
    omega
   ·rw [List.countP_cons_of_neg hx]
    by_cases hy:p x=true
    ·rw [List.countP_cons_of_pos hy];omega
    ·rw [List.countP_cons_of_neg hy];omega
section
variable {P:Program} {ops:Array Oper} {Q:Exit→Act→World→Prop} {md:Region.Mode}
def todo (ops:Array Oper) (listed:Array Bool):Nat:=(List.range ops.size).countP fun i=>!listed.getD i true
theorem qbe {listed:Array Bool} {i:Nat} (h:i<listed.size):listed.getD i true=listed.getD i false:=by simp [h]
theorem qff (hacyc:∀(i:Nat) (o:Oper) (e:Edge),ops[i]?=some o→e∈o.after→e.on<i) {listed:Array Bool} (hs:listed.size=ops.size) (h:Region.ready md ops listed=[]) :
  ∀i,i<ops.size→listed.getD i false=true:=by
 intro i
 induction i using Nat.strongRecOn with
 | ind i ih =>
  intro hi
  cases hb:listed.getD i false with
  | true=>rfl
  | false =>
   have:i∈Region.ready md ops listed:=mem_ready.2 ⟨by rw [qbe (by omega),hb],ops[i],by simp [hi],fun e he _=>ih e.on (hacyc i _ e (by simp [hi]) he) (by have:=hacyc i _ e (by simp [hi]) he;omega)⟩
   rw [h] at this
   cases this
theorem qk2 (I:Array Bool→Act→World→Prop) (hacyc:∀(i:Nat) (o:Oper) (e:Edge),ops[i]?=some o→e∈o.after→e.on<i)
  (hstep:∀(listed:Array Bool) (a:Act) (w:World) (i:Nat) (o:Oper),I listed a w→listed.size=ops.size→ops[i]?=some o→(∀e∈o.after,Region.binds md e=true→listed.getD e.on false=true)→wpOp P ops Q i (fun a' w'=>I (listed.setIfInBounds i true) a' w') a w)
  (hend:∀listed a w,I listed a w→(∀i,i<ops.size→listed.getD i false=true)→Q .normal a w) :
  ∀(fuel:Nat) (listed:Array Bool) (a:Act) (w:World),listed.size=ops.size→todo ops listed≤fuel→I listed a w→wpAny P md ops Q fuel listed a w:=by
 intro fuel
 induction fuel with
 | zero =>
  intro listed a w hs hf hI
  have hall:∀i,i<ops.size→listed.getD i false=true:=by
   intro i hi
   have h0:todo ops listed=0:=by omega
   unfold todo at h0
   rw [List.countP_eq_zero] at h0
   have:=h0 i (List.mem_range.2 hi)
   rw [←qbe (by omega)]
   simpa using this
  refine ⟨?_,hend _ _ _ hI hall⟩
  cases hr:Region.ready md ops listed with
  | nil=>rfl
  | cons j r =>
   have hj:j∈Region.ready md ops listed:=by rw [hr];exact List.mem_cons_self ..
   obtain ⟨h0,o,ho,_⟩:=mem_ready.1 hj
   have hjs:j<ops.size:=(Array.getElem?_eq_some_iff.1 ho).1
   rw [qbe (by omega),hall j hjs] at h0
   cases h0
 | succ fuel ih =>
  intro listed a w hs hf hI
  refine ⟨fun hr=>hend _ _ _ hI (qff hacyc hs hr),fun i hi=>?_⟩
  obtain ⟨h0,o,ho,hall⟩:=mem_ready.1 hi
  have his:i<ops.size:=(Array.getElem?_eq_some_iff.1 ho).1
  refine wpOp_mono (fun a' w' h'=>ih _ a' w' (by simpa using hs) ?_ h') (hstep listed a w i o hI hs ho hall)
  have:todo ops (listed.setIfInBounds i true)<todo ops listed:=by
   unfold todo
   refine qcO _ _ _ (fun x _ hx=>?_) i (List.mem_range.2 his) (by rw [h0];rfl) (by simp [show i<listed.size by omega])
   by_cases hxi:i=x
   ·subst hxi;rw [h0];rfl
   ·rw [getD_set_ne true hxi] at hx;exact hx
  omega
def qbc (P:Program) (o:Oper) (a:Act) (w:World) (post:Value→World→Prop):Prop :=
 (∃v w',(execOp a.eval o).run P w=.ok (.value v) w'∧post v w') ∨
 (∃f args,(execOp a.eval o).run P w=.ok (.enter f args) w∧Calls P f args w fun e w'=>∃v,e=.returned v∧post v w')
theorem qbc.wp {o:Oper} {a:Act} {w:World} {post:Value→World→Prop} {K:Act→World→Prop} (h:qbc P o a w post) (hK:∀v w',post v w'→K (a.put o.dst v) w'):o.wp P a w K Q:=by
 unfold Oper.wp
 rcases h with ⟨v,w',hr,hp⟩|⟨f,args,hr,hc⟩
 ·rw [hr];exact hK v w' hp
 ·rw [hr]
  refine Calls.mono hc fun e w'' he=>?_
  obtain ⟨v,rfl,hp⟩:=he
  exact hK v w'' hp
structure RI (slot:Nat→Nat) (R:Nat→Value→World→Prop) (fixed:List (Nat × Value)) (N:Nat) (w0:World) (listed:Array Bool) (a:Act) (w:World):Prop where
 df:a.defers=[]
 sz:a.tmps.size=N
 bl:Below w0.heap.size w0 w
 fx:∀p∈fixed,a.tmps.getD p.1 undef=p.2
 rs:∀j,listed.getD j false=true→R j (a.tmps.getD (slot j) undef) w
def qcx (P:Program) (slot:Nat→Nat) (R:Nat→Value→World→Prop) (fixed:List (Nat × Value)) (w0:World):Nat→List Oper→Prop
 | _,[]=>True
 | i,o :: rest=>(∀a w,Below w0.heap.size w0 w→(∀p∈fixed,a.tmps.getD p.1 undef=p.2)→(∀e∈o.after,R e.on (a.tmps.getD (slot e.on) undef) w)→qbc P o a w fun v w'=>Below w.heap.size w w'∧R i v w')∧qcx P slot R fixed w0 (i+1) rest
theorem qcx.at {slot:Nat→Nat} {R:Nat→Value→World→Prop} {fixed:List (Nat × Value)} {w0:World}:∀(l:List Oper) (k i:Nat) (o:Oper),qcx P slot R fixed w0 k l→l[i]?=some o →
  ∀a w,Below w0.heap.size w0 w→(∀p∈fixed,a.tmps.getD p.1 undef=p.2)→(∀e∈o.after,R e.on (a.tmps.getD (slot e.on) undef) w)→qbc P o a w fun v w'=>Below w.heap.size w w'∧R (k+i) v w':=by
 intro l
 induction l with
 | nil=>intro k i o _ hi;simp at hi
 | cons x l ih =>
  intro k i o h hi
  cases i with
  | zero =>
   simp at hi
   subst hi
   exact h.1
  | succ i =>
   have:=ih (k+1) i o h.2 (by simpa using hi)
   rw [show k+(i+1)=k+1+i by omega]
   exact this
theorem qdV {id:Nat} {a:Act} {w:World} (hm:P.follows .mixedOrders=true) (slot:Nat→Nat) (R:Nat→Value→World→Prop) (fixed:List (Nat × Value)) (N:Nat)
  (ha:a.defers=[]) (hN:a.tmps.size=N) (hfx:∀p∈fixed,a.tmps.getD p.1 undef=p.2)
  (hops:∀(i:Nat) (o:Oper),ops[i]?=some o→o.dst=some (slot i)∧slot i<N∧o.guard=none∧(∀p∈fixed,p.1≠slot i)∧(∀e∈o.after,e.on<i∧Region.binds .any e=true))
  (hinj:∀i j,i<ops.size→j<ops.size→slot i=slot j→i=j)
  (hper:∀j v w w',R j v w→Below w.heap.size w w'→R j v w')
  (hstep:qcx P slot R fixed { w with drawn:=w.drawn+1 } 0 ops.toList)
  (hend:∀a w',a.defers=[]→a.tmps.size=N→Below w.heap.size { w with drawn:=w.drawn+1 } w'→(∀p∈fixed,a.tmps.getD p.1 undef=p.2)→(∀j,j<ops.size→R j (a.tmps.getD (slot j) undef) w')→Q .normal a w') :
  (Code.region id ops true).wp P Q a w:=by
 refine wp_region_any hm (qk2 (RI slot R fixed N { w with drawn:=w.drawn+1 }) (fun i o e ho he=>((hops i o ho).2.2.2.2 e he).1) ?_ ?_ ops.size _ _ _ (by simp) (by unfold todo;exact Nat.le_trans (List.countP_le_length ..) (by simp)) ⟨ha,hN,bl,hfx,fun j hj=>by simp [Array.getElem?_replicate] at hj;split at hj<;>simp at hj⟩)
 ·intro listed a w' i o hI hs ho hall
  obtain ⟨h1,h2,h3,h4,h5⟩:=hops i o ho
  have his:i<ops.size:=(Array.getElem?_eq_some_iff.1 ho).1
  have hok:=hstep.at (P:=P) ops.toList 0 i o (by simpa using ho) a w' hI.bl hI.fx (fun e he=>hI.rs _ (hall e he (h5 e he).2))
  rw [Nat.zero_add] at hok
  unfold wpOp
  simp only [ho,Region.wanted,h3,if_true]
  refine .inl (hok.wp fun v w'' hp=>?_)
  rw [h1]
  refine ⟨hI.df,by simp [Act.put,hI.sz],hI.bl.trans (hp.1.mono hI.bl.size),fun p hp'=>?_,fun j hj=>?_⟩
  ·have:=hI.fx p hp'
   simp only [Act.put]
   rw [←this]
   simp [Array.getElem?_setIfInBounds_ne (Ne.symm (h4 p hp'))]
  ·by_cases hji:i=j
   ·subst hji
    simp only [Act.put]
    have hz:slot i<a.tmps.size:=by rw [hI.sz];exact h2
    simpa [hz] using hp.2
   ·rw [getD_set_ne false hji] at hj
    have hjs:j<ops.size:=by
     rcases Nat.lt_or_ge j listed.size with h | h
     ·omega
     ·simp [Array.getElem?_eq_none h] at hj
    have hsl:slot i≠slot j:=fun e=>hji (hinj i j his hjs e)
    simp only [Act.put]
    have:=hper j _ _ _ (hI.rs j hj) hp.1
    simpa [Array.getElem?_setIfInBounds_ne hsl] using this
 ·intro listed a w' hI hall
  exact hend a w' hI.df hI.sz hI.bl hI.fx (fun j hj=>hI.rs j (hall j hj))
def qkX (ops:Array Oper) (slot:Nat→Nat) (N:Nat) (keys:List Nat):Bool :=
 (List.range ops.size).all fun i=>match ops[i]? with
  | none=>true
  | some o=>o.dst == some (slot i) && decide (slot i<N) && o.guard.isNone && keys.all (fun k=>k != slot i) && o.after.all (fun e=>decide (e.on<i) && Region.binds .any e) && (List.range ops.size).all fun j=>slot i != slot j || i == j
theorem qfl {slot:Nat→Nat} {N:Nat} {keys:List Nat} (h:qkX ops slot N keys=true) (i:Nat) (o:Oper) (ho:ops[i]?=some o) :
  o.dst=some (slot i)∧slot i<N∧o.guard=none∧(∀k∈keys,k≠slot i)∧(∀e∈o.after,e.on<i∧Region.binds .any e=true)∧∀j,j<ops.size→slot i=slot j→i=j:=by
 have his:i<ops.size:=(Array.getElem?_eq_some_iff.1 ho).1
 unfold qkX at h
 rw [List.all_eq_true] at h
 have:=h i (List.mem_range.2 his)
 simp only [ho,Bool.and_eq_true,beq_iff_eq,decide_eq_true_eq,Option.isNone_iff_eq_none,List.all_eq_true,bne_iff_ne,ne_eq,Array.all_eq_true_iff_forall_mem,Bool.or_eq_true,List.mem_range] at this
 obtain ⟨⟨⟨⟨⟨h1,h2⟩,h3⟩,h4⟩,h5⟩,h6⟩:=this
 refine ⟨h1,h2,h3,h4,h5,fun j hj he=>?_⟩
 rcases h6 j hj with h | h
 ·exact absurd he h
 ·exact h
theorem qau {id:Nat} {a:Act} {w:World} (hm:P.follows .mixedOrders=true) (slot:Nat→Nat) (R:Nat→Value→World→Prop) (fixed:List (Nat × Value)) (N:Nat) (keys:List Nat)
  (hok:qkX ops slot N keys=true) (hk:fixed.map Prod.fst=keys)
  (ha:a.defers=[]) (hN:a.tmps.size=N) (hfx:∀p∈fixed,a.tmps.getD p.1 undef=p.2)
  (hper:∀j v w w',R j v w→Below w.heap.size w w'→R j v w')
  (hstep:qcx P slot R fixed { w with drawn:=w.drawn+1 } 0 ops.toList)
  (hend:∀a w',a.defers=[]→a.tmps.size=N→Below w.heap.size { w with drawn:=w.drawn+1 } w'→(∀p∈fixed,a.tmps.getD p.1 undef=p.2)→(∀j,j<ops.size→R j (a.tmps.getD (slot j) undef) w')→Q .normal a w') :
  (Code.region id ops true).wp P Q a w :=
 qdV hm slot R fixed N ha hN hfx
  (fun i o ho=>by
   obtain ⟨h1,h2,h3,h4,h5,_⟩:=qfl hok i o ho
   exact ⟨h1,h2,h3,fun p hp=>h4 p.1 (by rw [←hk];exact List.mem_map_of_mem hp),h5⟩)
  (fun i j hi hj he=>by
   obtain ⟨_,_,_,_,_,h6⟩:=qfl hok i ops[i] (by simp [hi])
   exact h6 j hj he)
  hper hstep hend
end
end Go.Proofs.YtcegdgmbponapaaGreatDoor