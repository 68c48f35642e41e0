/-
  image.read: the first record of a text.
  image.read: what it refuses.
  image.read: what it answers, whatever the text is.
  What image.Records makes of a text: of lists alone.
-/
import Derived.Test.YtcegdgmbponapabGreatDoorPart32
namespace Go.Proofs.YtcegdgmbponapabGreatDoor
open Go.RowKit
attribute [local go_sem ↓] Go.wp_at_zero Go.wp_at_succ
theorem conv_own2 (w:World) (s:ByteArray):∃cap w',(convert 9 44 (.string s)).run Tryz.prog w=.ok (.slice (some ⟨w.heap.size,0,none⟩) s.size cap) w'∧FB w' w.heap.size s.data.toList∧Below w.heap.size w w'∧s.size≤cap:=by
 refine ⟨_,_,run_bytes_of_string w 9 44 5 s Tryz.underlying9 Tryz.underlying44 Tryz.underlying5,?_,((Below.refl _ _).drew).alloc (Nat.le_refl _) _,grownCap_ge _ _ _ _⟩
 refine ⟨bytesRow s (grownCap w s.size 0 5),?_,?_,?_⟩
 ·show (w.heap.push _)[w.heap.size]?=_
  simp
 ·simp [bytesRow]
 ·simp [bytesRow,bs]
theorem FB.keeps {own:Nat→Prop} {w w':World} {g:Nat} {xs:List UInt8} (h:FB w g xs) (hs:Spared own w w') (ho:¬own g):FB w' g xs:=by
 obtain ⟨C,h1,h2⟩:=h
 exact ⟨C,hs.heap h1 ho,h2⟩
def irS (i:Nat):Nat:=if i=7 then 15 else i+73
def irV (W Bk:Nat) (nm R:ByteArray) (mo t l z ep len:Nat):Nat→Value→World→Prop
 | 0,v,_=>v=.pointer (some ⟨Bk,0,none⟩)
 | 1,v,_=>v=.agg #[.string nm,.int .i64 mo,.int .i64 t,.int .i64 l,.int .i64 z,.int .i64 ep]
 | 2,v,_=>v=.string R
 | 3,v,_=>v=.int .i64 len
 | 4,v,_=>v=.string (R.extract 0 len)
 | 5,v,w=>∃g cap,v=.slice (some ⟨g,0,none⟩) len cap∧W≤g∧len≤cap∧FB w g (R.extract 0 len).data.toList
 | 6,v,w=>∃g cap,v=.agg #[.string nm,.int .i64 mo,.int .i64 t,.int .i64 l,.int .i64 z,.int .i64 ep,.slice (some ⟨g,0,none⟩) len cap,.slice none 0 0]∧W≤g∧len≤cap∧FB w g (R.extract 0 len).data.toList
 | _,_,_=>True
theorem irV_keeps (W Bk:Nat) (nm R:ByteArray) (mo t l z ep len:Nat) (j:Nat) (v:Value) (w w':World) (h:irV W Bk nm R mo t l z ep len j v w) (hk:∀g xs,FB w g xs→FB w' g xs):irV W Bk nm R mo t l z ep len j v w':=by
 unfold irV at h ⊢
 split at h
 ·exact h
 ·exact h
 ·exact h
 ·exact h
 ·exact h
 ·obtain ⟨g,cap,h1,h2,h3,h4⟩:=h
  exact ⟨g,cap,h1,h2,h3,hk _ _ h4⟩
 ·obtain ⟨g,cap,h1,h2,h3,h4⟩:=h
  exact ⟨g,cap,h1,h2,h3,hk _ _ h4⟩
 ·trivial
theorem FB.setRow {w:World} {g b:Nat} {xs:List UInt8} {c c':Array Value} (h:FB w g xs) (hb:w.heap[b]?=some (.cells c 127)):FB (w.setRow b c') g xs:=by
 refine h.keeps (setRow_spared w b c') ?_
 rintro rfl
 obtain ⟨C,h1,_⟩:=h
 rw [h1] at hb
 cases hb
structure HeadIs (T:ByteArray) (c:Nat) (h:Hd8):Prop where
 big:T.size≤9223372036854775807
 c0:T.data.toList.getD 0 0=UInt8.ofNat c
 c1:c<256
 hs:h.s=T.extract 1 T.size
 h10:10≤h.s.size
 hq:(h.s.data.toList.getD 9 0).toNat=h.q
 hfit:10+h.q≤h.s.size
 hm:(h.s.data.toList.getD 0 0).toNat=h.m
 ht:(h.s.data.toList.getD 1 0).toNat=h.t
 hl:(h.s.data.toList.getD 2 0).toNat=h.l
 hst:(h.s.data.toList.getD 3 0).toNat=h.st
 hno:(h.s.data.toList.getD 4 0).toNat=h.no
 hep:(h.s.data.toList.getD 5 0).toNat*256+(h.s.data.toList.getD 6 0).toNat=h.ep
 hsz:(h.s.data.toList.getD 7 0).toNat*256+(h.s.data.toList.getD 8 0).toNat=h.sz
theorem byte_at (s:ByteArray) (i:Nat) (hi:i<s.size):s.data.toList.getD i 0=s[i]'hi:=by
 have h1:i<s.data.size:=hi
 rw [List.getD_eq_getElem?_getD,Array.getElem?_toList,Array.getElem?_eq_getElem h1]
 rfl
theorem HeadIs.read {T:ByteArray} {c:Nat} {h:Hd8} (H:HeadIs T c h) (w:World) :
  Calls Tryz.prog 146 #[.string h.s] w fun e w'=>e=.returned (.tuple #[.agg #[.string (h.s.extract 10 (10+h.q)),.int .i64 h.m,.int .i64 h.t,.int .i64 h.l,.int .i64 h.sz,.int .i64 h.ep,.int .i64 h.st,.int .i64 h.no],.string (h.s.extract (10+h.q) h.s.size),.nilIface])∧Below w.heap.size w w':=by
 have h10:=H.h10
 have hb:h.s.size≤9223372036854775807:=by have:=H.big;rw [H.hs];simp;omega
 exact read_ok h w h10 hb (by rw [←byte_at _ _ (by omega)];exact H.hq) H.hfit (by rw [←byte_at _ _ (by omega)];exact H.hm) (by rw [←byte_at _ _ (by omega)];exact H.ht) (by rw [←byte_at _ _ (by omega)];exact H.hl) (by rw [←byte_at _ _ (by omega)];exact H.hst) (by rw [←byte_at _ _ (by omega)];exact H.hno) (by rw [←byte_at _ 5 (by omega),←byte_at _ 6 (by omega)];exact H.hep) (by rw [←byte_at _ 7 (by omega),←byte_at _ 8 (by omega)];exact H.hsz)
theorem arrF95 (t:Array Value) (h:t.size=95):∃f:Nat→Value,(∀k,t.getD k undef=f k)∧t=#[f 0,f 1,f 2,f 3,f 4,f 5,f 6,f 7,f 8,f 9,f 10,f 11,f 12,f 13,f 14,f 15,f 16,f 17,f 18,f 19,f 20,f 21,f 22,f 23,f 24,f 25,f 26,f 27,f 28,f 29,f 30,f 31,f 32,f 33,f 34,f 35,f 36,f 37,f 38,f 39,f 40,f 41,f 42,f 43,f 44,f 45,f 46,f 47,f 48,f 49,f 50,f 51,f 52,f 53,f 54,f 55,f 56,f 57,f 58,f 59,f 60,f 61,f 62,f 63,f 64,f 65,f 66,f 67,f 68,f 69,f 70,f 71,f 72,f 73,f 74,f 75,f 76,f 77,f 78,f 79,f 80,f 81,f 82,f 83,f 84,f 85,f 86,f 87,f 88,f 89,f 90,f 91,f 92,f 93,f 94]:=⟨fun k=>t.getD k undef,fun _=>rfl,arr_of t 95 h⟩
def iqV (c:Nat) (R:ByteArray) (len m:Nat) (rc:Array Value):Nat→Value→Prop
 | 0,v=>v=.agg rc
 | 1,v=>v=.string R
 | 2,v=>v=.int .i64 c
 | 3,v=>v=.int .i64 len
 | 4,v=>v=.int .i64 m
 | 5,v=>v=.string (R.extract m R.size)
 | 7,v=>v=.string (R.extract m R.size)
 | 8,v=>v=.nilIface
 | _,_=>True
def iqSlot (i:Nat):Option Nat:=if i=6 then none else if i=7 then some 7 else if i=8 then some 8 else some (i+89)
def iqS (i:Nat):Nat:=if i=7 then 7 else if i=8 then 8 else i+89
def iqA (c:Nat) (R:ByteArray) (len m:Nat) (rc:Array Value) (A:Nat) (j:Nat) (a:Act) (w:World):Prop:=iqV c R len m rc j (a.tmps.getD (iqS j) undef)∧(j=6→w.heap[A]?=some (.cells rc 127))
def iqU (A:Nat) (j:Nat) (w:World):Prop:=j=6→∃old:Array Value,old.size=8∧w.heap[A]?=some (.cells old 127)
set_option maxRecDepth 100000 in
set_option maxHeartbeats 4000000 in
theorem iread_ok1 (T:ByteArray) (h:Hd8) (n no len m:Nat) (R:ByteArray) (w:World) (H:HeadIs T 1 h) (hstn:h.st=n) (hnon:h.no=no) (hE:EpochsOk h.m h.ep 1) (hq1:1≤h.q) (hq12:h.q≤12) (hpl:IsPlan h.m h.t h.l n) (hz:h.sz≤60) (hlen:len=10+h.q+Cof.ngroups h.m h.t h.l h.sz+8) (hR:R=h.s.extract (10+h.q) h.s.size) (hm:m=1*len) (hfit:m≤R.size) :
  Calls Tryz.prog 107 #[.string T,.int .i64 n,.int .i64 no] w fun e w'=>∃g cap,e=.returned (.tuple #[.agg #[.string (h.s.extract 10 (10+h.q)),.int .i64 h.m,.int .i64 h.t,.int .i64 h.l,.int .i64 h.sz,.int .i64 h.ep,.slice (some ⟨g,0,none⟩) len cap,.slice none 0 0],.string (R.extract m R.size),.nilIface])∧w.heap.size≤g∧len≤cap∧FB w' g (R.extract 0 len).data.toList∧Below w.heap.size w w':=by
 have hTs:11≤T.size:=by have h1:=H.h10;rw [H.hs] at h1;simp at h1;omega
 have hng:=ngroups_le hpl h.sz hz
 have hsq:(h.s.extract 10 (10+h.q)).size=h.q:=by have:=H.hfit;simp;omega
 have HRD:=hid (fun w'=>H.read w')
 have HEP:=hid (fun w'=>epochs_ok (h.s.extract 10 (10+h.q)) h.m h.t h.l h.sz h.ep 1 w' hE)
 have HLL:=hid (fun w'=>llen_ok h.m h.t h.l n no h.ep h.sz (h.s.extract 10 (10+h.q)) w' hpl hz (by rw [hsq];exact hq1) (by rw [hsq];exact hq12) hng)
 have eln:(10+((h.s.extract 10 (10+h.q)).size:Int)+((Cof.ngroups h.m h.t h.l h.sz:Nat):Int)+8)=(len:Int):=by rw [hsq,hlen];omega
 rw [eln] at HLL
 rw [hstn,hnon] at HRD
 have hlen90:len≤90:=by omega
 have hlen0:1≤len:=by omega
 have hTb:=H.big
 have t0:(T[0]'(by omega)).toNat=1:=by rw [←byte_at T 0 (by omega),H.c0];rfl
 have ets:h.s=T.extract 1 T.size:=H.hs
 have hRb:R.size≤9223372036854775807:=by rw [hR,ets];simp;omega
 rw [ets] at HRD HEP HLL hR ⊢
 rw [←hR] at HRD
 generalize (T.extract 1 T.size).extract 10 (10+h.q)=nm at *
 generalize h.m=mo at *
 generalize h.t=t at *
 generalize h.l=l at *
 generalize h.sz=z at *
 generalize h.ep=ep at *
 have h1T:(1:Int)≤(T.size:Int):=by omega
 have hTne:¬T=ByteArray.empty:=fun e=>by rw [e] at hTs;simp at hTs
 have hm':(1:Int)*(len:Int)=(m:Int):=by omega
 have hmR:¬(R.size:Int)<(m:Int):=by omega
 have hlR:(len:Int)≤(R.size:Int):=by omega
 have HLR:=hid (show len≤R.size by omega)
 have HM:=hid hm
 have HFIT:=hid hfit
 clear H hstn hnon hE hq1 hq12 hpl hz hlen hR hng hsq eln ets hm hfit
 go_enter Tryz.func107,Tryz.ntmps107
 go_wp2_with fail
 refine (HRD.out _).mono ?_
 rintro e w2 ⟨rfl,hb2⟩
 go_wp2_with fail
 have hbw1:=(Below.refl w.heap.size w).alloc (Nat.le_refl _) (.cells #[.string ⟨#[]⟩,.int .i64 0,.int .i64 0,.int .i64 0,.int .i64 0,.int .i64 0,.slice none 0 0,.slice none 0 0] 127)
 have HA2:=(hb2.block w.heap.size (by simp)).trans (alloc_at w (.cells #[.string ⟨#[]⟩,.int .i64 0,.int .i64 0,.int .i64 0,.int .i64 0,.int .i64 0,.slice none 0 0,.slice none 0 0] 127))
 have hb02:Below w.heap.size w w2:=hbw1.trans (hb2.mono (by simp))
 have hA2:w.heap.size<w2.heap.size:=cells_lt HA2
 have hba3:=(Below.refl w2.heap.size w2).alloc (Nat.le_refl _) (.cells #[.string nm,.int .i64 mo,.int .i64 t,.int .i64 l,.int .i64 z,.int .i64 ep,.int .i64 n,.int .i64 no] 134)
 have HL3:=alloc_at w2 (.cells #[.string nm,.int .i64 mo,.int .i64 t,.int .i64 l,.int .i64 z,.int .i64 ep,.int .i64 n,.int .i64 no] 134)
 have HA3:=(hba3.block _ hA2).trans HA2
 generalize w2.alloc (.cells #[.string nm,.int .i64 mo,.int .i64 t,.int .i64 l,.int .i64 z,.int .i64 ep,.int .i64 n,.int .i64 no] 134)=w3 at *
 have hb03:Below w.heap.size w w3:=hb02.trans (hba3.mono hb02.size)
 refine (HEP.out w3).mono ?_
 rintro e w4 ⟨rfl,hb4⟩
 have hl3:w2.heap.size<w3.heap.size:=cells_lt HL3
 have HL4:=(hb4.block _ hl3).trans HL3
 have HA4:=(hb4.block _ (cells_lt HA3)).trans HA3
 have hb04:Below w.heap.size w w4:=hb03.trans (hb4.mono hb03.size)
 have x0:w4.cell? ⟨w2.heap.size,0,none⟩=some (.string nm):=by rw [cells_at HL4];rfl
 have x1:w4.cell? ⟨w2.heap.size,1,none⟩=some (.int .i64 mo):=by rw [cells_at HL4];rfl
 have x2:w4.cell? ⟨w2.heap.size,2,none⟩=some (.int .i64 t):=by rw [cells_at HL4];rfl
 have x3:w4.cell? ⟨w2.heap.size,3,none⟩=some (.int .i64 l):=by rw [cells_at HL4];rfl
 have x4:w4.cell? ⟨w2.heap.size,4,none⟩=some (.int .i64 z):=by rw [cells_at HL4];rfl
 have x5:w4.cell? ⟨w2.heap.size,5,none⟩=some (.int .i64 ep):=by rw [cells_at HL4];rfl
 have x6:w4.cell? ⟨w2.heap.size,6,none⟩=some (.int .i64 n):=by rw [cells_at HL4];rfl
 have x7:w4.cell? ⟨w2.heap.size,7,none⟩=some (.int .i64 no):=by rw [cells_at HL4];rfl
 have HHL4:=hid HL4
 have HHA4:=hid HA4
 clear HL4 HA4 HA3 HL3 HA2
 go_wp2_with fail
 refine (HLL.out w4).mono ?_
 rintro e w5 ⟨rfl,hb5⟩
 have HL5:=hid ((hb5.block _ (cells_lt HHL4.out)).trans HHL4.out)
 have HA5:=hid ((hb5.block _ (cells_lt HHA4.out)).trans HHA4.out)
 have hb05:Below w.heap.size w w5:=hb04.trans (hb5.mono hb04.size)
 have hsz5:w.heap.size<w5.heap.size:=cells_lt HA5.out
 clear x0 x1 x2 x3 x4 x5 x6 x7 HHL4 HHA4
 go_wp2_with fail
 have HCX:=hid (show ∀w':World,Below w5.heap.size { w5 with drawn:=w5.drawn+1 } w'→w'.cell? ⟨w2.heap.size,0,none⟩=some (.string nm)∧w'.cell? ⟨w2.heap.size,1,none⟩=some (.int .i64 mo)∧w'.cell? ⟨w2.heap.size,2,none⟩=some (.int .i64 t)∧w'.cell? ⟨w2.heap.size,3,none⟩=some (.int .i64 l)∧w'.cell? ⟨w2.heap.size,4,none⟩=some (.int .i64 z)∧w'.cell? ⟨w2.heap.size,5,none⟩=some (.int .i64 ep) from fun w' hs=>by
  have hh:=(hs.block _ (cells_lt HL5.out)).trans HL5.out
  exact ⟨by rw [cells_at hh];rfl,by rw [cells_at hh];rfl,by rw [cells_at hh];rfl,by rw [cells_at hh];rfl,by rw [cells_at hh];rfl,by rw [cells_at hh];rfl⟩)
 have hlR2:¬(R.size:Int)<(len:Int):=by omega
 have HFX:∀a:Act,(∀x∈[((6:Nat),Value.pointer (some ⟨w.heap.size,0,none⟩)),(9,.int .i64 1),(10,.pointer (some ⟨w2.heap.size,0,none⟩)),(11,.string R),(14,.int .i64 len)],a.tmps.getD x.1 undef=x.2)→a.tmps[10]?.getD undef=.pointer (some ⟨w2.heap.size,0,none⟩)∧a.tmps[11]?.getD undef=.string R∧a.tmps[14]?.getD undef=.int .i64 len:=by
  intro a hx
  have:=hx
  simp at this
  exact ⟨this.2.2.1,this.2.2.2.1,this.2.2.2.2⟩
 refine wp_region_mem2 (by kernel_rfl) irS (irV w.heap.size w2.heap.size nm R mo t l z ep len) [(6,.pointer (some ⟨w.heap.size,0,none⟩)),(9,.int .i64 1),(10,.pointer (some ⟨w2.heap.size,0,none⟩)),(11,.string R),(14,.int .i64 len)] 95 7 8 6 [6,9,10,11,14] 127 #[.string ⟨#[]⟩,.int .i64 0,.int .i64 0,.int .i64 0,.int .i64 0,.int .i64 0,.slice none 0 0,.slice none 0 0] (.tmp 15) (by kernel_rfl) rfl ⟨_,rfl,fun a w'=>by go_simp⟩ ⟨_,rfl,rfl,fun a=>by simp [Act.eval,irS]⟩ (by decide) (by decide) ⟨_,rfl,by simp [Region.binds]⟩ ?_ (by kernel_rfl) rfl rfl ?_ (fun j v w2 w3 hr hb=>irV_keeps _ _ _ _ _ _ _ _ _ _ j v w2 w3 hr (fun g xs hf=>hf.keeps (Spared.ofBelow (own:=fun _=>False) hb (Nat.le_refl _)) (fun h=>h))) (fun j v w2 b c c' hb hr _=>irV_keeps _ _ _ _ _ _ _ _ _ _ j v w2 _ hr (fun g xs hf=>hf.setRow hb)) ?_ ?_
 ·intro v w' hv
  obtain ⟨g,cap,rfl,_⟩:=hv
  exact ⟨_,rfl,rfl,by simp [Value.oneCell']⟩
 ·simp
 ·refine ⟨?_,?_,?_,?_,?_,?_,?_,?_,?_,trivial⟩
  ·refine .inr (.inr fun a w' hb hf hd=>?_)
   obtain ⟨f10,f11,f14⟩:=HFX a hf
   obtain ⟨k0,k1,k2,k3,k4,k5⟩:=HCX.out w' hb
   have hd0:=hd
   simp [irV,irS,Region.binds] at hd
   exact .inl ⟨.pointer (some ⟨w2.heap.size,0,none⟩),w',by go_simp,Below.refl _ _,rfl⟩
  ·refine .inr (.inr fun a w' hb hf hd=>?_)
   obtain ⟨f10,f11,f14⟩:=HFX a hf
   obtain ⟨k0,k1,k2,k3,k4,k5⟩:=HCX.out w' hb
   have hd0:=hd
   simp [irV,irS,Region.binds] at hd
   exact .inl ⟨.agg #[.string nm,.int .i64 mo,.int .i64 t,.int .i64 l,.int .i64 z,.int .i64 ep],w',by go_simp,Below.refl _ _,rfl⟩
  ·refine .inr (.inr fun a w' hb hf hd=>?_)
   obtain ⟨f10,f11,f14⟩:=HFX a hf
   obtain ⟨k0,k1,k2,k3,k4,k5⟩:=HCX.out w' hb
   have hd0:=hd
   simp [irV,irS,Region.binds] at hd
   exact .inl ⟨.string R,w',by go_simp,Below.refl _ _,rfl⟩
  ·refine .inr (.inr fun a w' hb hf hd=>?_)
   obtain ⟨f10,f11,f14⟩:=HFX a hf
   obtain ⟨k0,k1,k2,k3,k4,k5⟩:=HCX.out w' hb
   have hd0:=hd
   simp [irV,irS,Region.binds] at hd
   exact .inl ⟨.int .i64 len,w',by go_simp,Below.refl _ _,rfl⟩
  ·refine .inr (.inr fun a w' hb hf hd=>?_)
   obtain ⟨f10,f11,f14⟩:=HFX a hf
   obtain ⟨k0,k1,k2,k3,k4,k5⟩:=HCX.out w' hb
   have hd0:=hd
   simp [irV,irS,Region.binds] at hd
   exact .inl ⟨.string (R.extract 0 len),w',by go_simp,Below.refl _ _,rfl⟩
  ·refine .inr (.inr fun a w' hb hf hd=>?_)
   obtain ⟨f10,f11,f14⟩:=HFX a hf
   obtain ⟨k0,k1,k2,k3,k4,k5⟩:=HCX.out w' hb
   have hd0:=hd
   simp [irV,irS,Region.binds] at hd
   obtain ⟨cap,w'',hrun,hFB,hbel,hcap⟩:=conv_own2 w' (R.extract 0 len)
   have hsz:(R.extract 0 len).size=len:=by have:=HLR.out;simp;omega
   rw [hsz] at hrun hcap
   exact .inl ⟨.slice (some ⟨w'.heap.size,0,none⟩) len cap,w'',by go_simp,hbel,w'.heap.size,cap,rfl,by have:=hb.size;simp at this;omega,hcap,hFB⟩
  ·refine .inr (.inr fun a w' hb hf hd=>?_)
   obtain ⟨f10,f11,f14⟩:=HFX a hf
   obtain ⟨k0,k1,k2,k3,k4,k5⟩:=HCX.out w' hb
   have hd0:=hd
   simp [irV,irS,Region.binds] at hd
   have h74:=hd0 ⟨1,.data⟩ (by simp) rfl (by decide) (by decide)
   obtain ⟨g,cap,h78,hg1,hg2,hg3⟩:=hd0 ⟨5,.data⟩ (by simp) rfl (by decide) (by decide)
   simp [irV,irS] at h74 h78
   exact .inl ⟨.agg #[.string nm,.int .i64 mo,.int .i64 t,.int .i64 l,.int .i64 z,.int .i64 ep,.slice (some ⟨g,0,none⟩) len cap,.slice none 0 0],w',by go_simp,Below.refl _ _,g,cap,rfl,hg1,hg2,hg3⟩
  ·exact .inl rfl
  ·exact .inr (.inl rfl)
 ·intro a1 w6 b cs hdf hsz hb6 hf hr hb1 hb2 hb3 hcs
  obtain ⟨tm,df⟩:=a1
  simp only at hdf hsz hf hr hb1 hcs
  subst hdf
  obtain ⟨g,cap,hv6,hg1,hg2,hg3⟩:=hr 6 (by decide) (by decide) (by decide)
  rw [hv6] at hcs
  cases hcs
  obtain ⟨f,hfk,rfl⟩:=arrF95 tm hsz
  have e6:f 6=.pointer (some ⟨w.heap.size,0,none⟩):=(hfk 6).symm.trans (hf (6,_) (by simp))
  have e9:f 9=.int .i64 1:=(hfk 9).symm.trans (hf (9,_) (by simp))
  have e10:f 10=.pointer (some ⟨w2.heap.size,0,none⟩):=(hfk 10).symm.trans (hf (10,_) (by simp))
  have e11:f 11=.string R:=(hfk 11).symm.trans (hf (11,_) (by simp))
  have e14:f 14=.int .i64 len:=(hfk 14).symm.trans (hf (14,_) (by simp))
  have e15:f 15=.pointer (some ⟨b,0,none⟩):=(hfk 15).symm.trans hb1
  simp only [e6,e9,e10,e11,e14,e15]
  clear hr hsz hf hb1 hv6 hfk e6 e9 e10 e11 e14 e15
  have HB3:=hid hb3
  have HG3:=hid hg3
  have hb56:Below w5.heap.size w5 w6:=(Below.refl w5.heap.size w5).drew.trans hb6
  have HA6:=hid ((hb56.block _ hsz5).trans HA5.out)
  have hb06:Below w.heap.size w w6:=hb05.trans (hb56.mono hb05.size)
  have hbA:b≠w.heap.size:=by omega
  have hblt:b<w6.heap.size:=cells_lt hb3
  clear hb3 hg3 hb6 HA5 HL5 HCX HFX HRD HEP HLL
  go_wp2_with fail
  have wmm:IntKind.i64.wrap (m:Int)=(m:Int):=by rw [IntKind.wrap_i64];omega
  obtain ⟨rc,hrc⟩:∃rc:Array Value,rc=#[.string nm,.int .i64 mo,.int .i64 t,.int .i64 l,.int .i64 z,.int .i64 ep,.slice (some ⟨g,0,none⟩) len cap,.slice none 0 0]:=⟨_,rfl⟩
  have HRC:=hid hrc
  have HCW:=hid (show ∀w':World,Spared (fun k=>∃i,i=6∧k=w.heap.size) { w6 with drawn:=w6.drawn+1 } w'→w'.heap[b]?=some (.cells rc 127) from fun w' hs=>by
   rw [hrc]
   exact hs.heap (b:=b) HB3.out (by rintro ⟨i,_,e⟩;exact hbA e))
  have MK:∀(i:Nat) (a:Act) (w':World) (o:Oper),a.tmps.size=95→i<9→i≠6→StepOk Tryz.prog o a w' (fun u w''=>Spared (fun k=>i=6∧k=w.heap.size) w' w''∧iqV 1 R len m rc i u)→StepOk2 Tryz.prog o a w' (fun u w''=>Spared (fun k=>i=6∧k=w.heap.size) w' w''∧iqA 1 R len m rc w.heap.size i (a.put (iqSlot i) u) w''):=by
   intro i a w' o hsz hi h6 hh
   refine .inl <| hh.weaken fun u w'' hp=>⟨hp.1,?_,fun e=>absurd e h6⟩
   have e:iqSlot i=some (iqS i):=by
    unfold iqSlot iqS
    rw [if_neg h6]
    split
    ·rfl
    ·split<;>rfl
   have hlt:iqS i<a.tmps.size:=by
    unfold iqS
    split
    ·omega
    ·split<;>omega
   rw [e,put_eq _ _ _ hlt]
   exact hp.2
  refine wp_region_own2 (by kernel_rfl) iqSlot (iqA 1 R len m rc w.heap.size) (iqU w.heap.size) (fun i k=>i=6∧k=w.heap.size) [(6,.pointer (some ⟨w.heap.size,0,none⟩)),(9,.int .i64 1),(11,.string R),(14,.int .i64 len),(15,.pointer (some ⟨b,0,none⟩))] 95 (fun i=>if i=0 then [15] else if i=1 then [11] else if i=2 then [9] else if i=3 then [14] else if i=6 then [6] else []) (by kernel_rfl) rfl rfl ?_ ?_ ?_ ?_ ?_ ?_
  ·simp
  ·intro j _ _
   exact ⟨_,rfl,HA6.out⟩
  ·intro i j ac u w3 w4 hj hij hwt _ hr hs hsl
   refine ⟨?_,fun h6=>?_⟩
   ·by_cases h6:j=6
    ·subst h6;trivial
    ·have e:((ac.put (iqSlot i) u).tmps.getD (iqS j) undef)=ac.tmps.getD (iqS j) undef:=by
      have ej:iqSlot j=some (iqS j):=by
       unfold iqSlot iqS
       rw [if_neg h6]
       split
       ·rfl
       ·split<;>rfl
      cases hq:iqSlot i with
      | none=>rfl
      | some t=>exact put_ne _ _ _ _ (fun e=>hsl (by rw [hq,ej,e]))
     rw [e]
     exact hr.1
   ·refine hs.heap (hr.2 h6) ?_
    rintro ⟨h,_⟩
    omega
  ·intro i j w3 w4 hij _ _ hr hs h6
   obtain ⟨old,h1,h2⟩:=hr h6
   exact ⟨old,h1,hs.heap h2 (fun ⟨h,_⟩=>hij (by omega))⟩
  ·refine ⟨?_,?_,?_,?_,?_,?_,?_,?_,?_,trivial⟩
   ·intro ac w' hsz hs hf hd2 hu
    have hd:=fun e he hb=>(hd2 e he hb).1.1
    refine MK 0 ac w' _ hsz (by decide) (by decide) ?_
    clear hsz
    have f15:ac.tmps[15]?.getD undef=.pointer (some ⟨b,0,none⟩):=by simpa using hf (15,.pointer (some ⟨b,0,none⟩)) (by simp) rfl
    have hh:=HCW.out w' (hs.mono fun k ⟨i,h⟩=>⟨i,h⟩)
    rw [HRC.out] at hh ⊢
    have q0:w'.cell? ⟨b,0,none⟩=some (.string nm):=by rw [cells_at hh];rfl
    have q1:w'.cell? ⟨b,1,none⟩=some (.int .i64 mo):=by rw [cells_at hh];rfl
    have q2:w'.cell? ⟨b,2,none⟩=some (.int .i64 t):=by rw [cells_at hh];rfl
    have q3:w'.cell? ⟨b,3,none⟩=some (.int .i64 l):=by rw [cells_at hh];rfl
    have q4:w'.cell? ⟨b,4,none⟩=some (.int .i64 z):=by rw [cells_at hh];rfl
    have q5:w'.cell? ⟨b,5,none⟩=some (.int .i64 ep):=by rw [cells_at hh];rfl
    have q6:w'.cell? ⟨b,6,none⟩=some (.slice (some ⟨g,0,none⟩) len cap):=by rw [cells_at hh];rfl
    have q7:w'.cell? ⟨b,7,none⟩=some (.slice none 0 0):=by rw [cells_at hh];rfl
    simp [iqV,iqS,Region.binds] at hd
    exact .inl ⟨.agg #[.string nm,.int .i64 mo,.int .i64 t,.int .i64 l,.int .i64 z,.int .i64 ep,.slice (some ⟨g,0,none⟩) len cap,.slice none 0 0],w',by go_simp,Spared.refl _ _,rfl⟩
   ·intro ac w' hsz hs hf hd2 hu
    have hd:=fun e he hb=>(hd2 e he hb).1.1
    refine MK 1 ac w' _ hsz (by decide) (by decide) ?_
    clear hsz
    have f11:ac.tmps[11]?.getD undef=.string R:=by simpa using hf (11,.string R) (by simp) rfl
    simp [iqV,iqS,Region.binds] at hd
    exact .inl ⟨.string R,w',by go_simp,Spared.refl _ _,rfl⟩
   ·intro ac w' hsz hs hf hd2 hu
    have hd:=fun e he hb=>(hd2 e he hb).1.1
    refine MK 2 ac w' _ hsz (by decide) (by decide) ?_
    clear hsz
    have f9:ac.tmps[9]?.getD undef=.int .i64 1:=by simpa using hf (9,.int .i64 1) (by simp) rfl
    simp [iqV,iqS,Region.binds] at hd
    exact .inl ⟨.int .i64 1,w',by go_simp,Spared.refl _ _,rfl⟩
   ·intro ac w' hsz hs hf hd2 hu
    have hd:=fun e he hb=>(hd2 e he hb).1.1
    refine MK 3 ac w' _ hsz (by decide) (by decide) ?_
    clear hsz
    have f14:ac.tmps[14]?.getD undef=.int .i64 len:=by simpa using hf (14,.int .i64 len) (by simp) rfl
    simp [iqV,iqS,Region.binds] at hd
    exact .inl ⟨.int .i64 len,w',by go_simp,Spared.refl _ _,rfl⟩
   ·intro ac w' hsz hs hf hd2 hu
    have hd:=fun e he hb=>(hd2 e he hb).1.1
    refine MK 4 ac w' _ hsz (by decide) (by decide) ?_
    clear hsz
    simp [iqV,iqS,Region.binds] at hd
    exact .inl ⟨.int .i64 m,w',by go_simp,Spared.refl _ _,rfl⟩
   ·intro ac w' hsz hs hf hd2 hu
    have hd:=fun e he hb=>(hd2 e he hb).1.1
    refine MK 5 ac w' _ hsz (by decide) (by decide) ?_
    clear hsz
    simp [iqV,iqS,Region.binds] at hd
    exact .inl ⟨.string (R.extract m R.size),w',by go_simp,Spared.refl _ _,rfl⟩
   ·intro ac w' hsz hs hf hd2 hu
    obtain ⟨old,ho1,ho2⟩:=hu rfl
    have f6:ac.tmps[6]?.getD undef=.pointer (some ⟨w.heap.size,0,none⟩):=by simpa using hf (6,.pointer (some ⟨w.heap.size,0,none⟩)) (by simp) rfl
    have h89:ac.tmps[89]?.getD undef=.agg rc:=by
     have:=(hd2 ⟨0,.data⟩ (by simp) rfl).1.1
     simpa [iqV,iqS] using this
    have hrs:rc.size=8:=by rw [HRC.out];rfl
    refine store_agg 127 (.tmp 6) (.tmp 89) rfl w.heap.size rc (by simp [Act.eval];exact f6) (by simp [Act.eval];exact h89) 127 old ho2 (by rw [hrs];exact Tryz.cellsRec) (by rw [hrs,ho1]) (by rw [HRC.out];simp [Value.oneCell']) ⟨?_,?_,fun _=>?_⟩
    ·exact (setRow_spared w' w.heap.size rc).mono fun k hk=>⟨rfl,hk⟩
    ·trivial
    ·exact setRow_heap _ _ _ _ _ _ ho2
   ·intro ac w' hsz hs hf hd2 hu
    have hd:=fun e he hb=>(hd2 e he hb).1.1
    refine MK 7 ac w' _ hsz (by decide) (by decide) ?_
    clear hsz
    simp [iqV,iqS,Region.binds] at hd
    exact .inl ⟨.string (R.extract m R.size),w',by go_simp,Spared.refl _ _,rfl⟩
   ·intro ac w' hsz hs hf hd2 hu
    have hd:=fun e he hb=>(hd2 e he hb).1.1
    refine MK 8 ac w' _ hsz (by decide) (by decide) ?_
    clear hsz
    simp [iqV,iqS,Region.binds] at hd
    exact .inl ⟨.nilIface,w',by go_simp,Spared.refl _ _,rfl⟩
  ·intro ac w' hdf hsz hsp hfx hr
   have r6:=(hr 6 (by decide)).2 rfl
   have r7:=(hr 7 (by decide)).1
   have r8:=(hr 8 (by decide)).1
   have f6:ac.tmps.getD 6 undef=.pointer (some ⟨w.heap.size,0,none⟩):=hfx (6,_) (by simp) (fun k hk e=>by
    unfold iqSlot at e
    split at e
    ·cases e
    ·split at e
     ·simp at e
     ·split at e
      ·simp at e
      ·simp at e)
   obtain ⟨tm,df⟩:=ac
   simp only at hdf hsz r7 r8 f6
   subst hdf
   obtain ⟨f,hfk,rfl⟩:=arrF95 tm hsz
   have e6:f 6=.pointer (some ⟨w.heap.size,0,none⟩):=(hfk 6).symm.trans f6
   have e7:f 7=.string (R.extract m R.size):=(hfk 7).symm.trans r7
   have e8:f 8=.nilIface:=(hfk 8).symm.trans r8
   simp only [e6,e7,e8]
   rw [HRC.out] at r6
   have x0:w'.cell? ⟨w.heap.size,0,none⟩=some (.string nm):=by rw [cells_at r6];rfl
   have x1:w'.cell? ⟨w.heap.size,1,none⟩=some (.int .i64 mo):=by rw [cells_at r6];rfl
   have x2:w'.cell? ⟨w.heap.size,2,none⟩=some (.int .i64 t):=by rw [cells_at r6];rfl
   have x3:w'.cell? ⟨w.heap.size,3,none⟩=some (.int .i64 l):=by rw [cells_at r6];rfl
   have x4:w'.cell? ⟨w.heap.size,4,none⟩=some (.int .i64 z):=by rw [cells_at r6];rfl
   have x5:w'.cell? ⟨w.heap.size,5,none⟩=some (.int .i64 ep):=by rw [cells_at r6];rfl
   have x6:w'.cell? ⟨w.heap.size,6,none⟩=some (.slice (some ⟨g,0,none⟩) len cap):=by rw [cells_at r6];rfl
   have x7:w'.cell? ⟨w.heap.size,7,none⟩=some (.slice none 0 0):=by rw [cells_at r6];rfl
   have hspA:Spared (fun k=>k=w.heap.size) w6 w':=((Spared.refl (fun k=>k=w.heap.size) w6).drew).trans (hsp.mono (by rintro k ⟨i,_,e⟩;exact e))
   have hbF:Below w.heap.size w w':=hb06.trans (hspA.below w.heap.size hb06.size (fun k hk=>by omega))
   have hgF:=HG3.out.keeps hspA (by intro e;obtain ⟨C,h1,_⟩:=HG3.out;rw [e,HA6.out] at h1;cases h1)
   clear hr hsz hfx r6 r7 r8 f6 hfk e6 e7 e8
   go_wp2_with fail
   refine bodyPost_ret (v:=.tuple #[.agg #[.string nm,.int .i64 mo,.int .i64 t,.int .i64 l,.int .i64 z,.int .i64 ep,.slice (some ⟨g,0,none⟩) len cap,.slice none 0 0],.string (R.extract m R.size),.nilIface]) ?_ rfl ⟨g,cap,rfl,hg1,hg2,hgF,hbF⟩
   simp [results,Tryz.results107,go_sem,x0,x1,x2,x3,x4,x5,x6,x7]
set_option maxRecDepth 100000 in
set_option maxHeartbeats 4000000 in
theorem iread_ok2 (T:ByteArray) (h:Hd8) (n no len m:Nat) (R:ByteArray) (w:World) (H:HeadIs T 2 h) (hstn:h.st=n) (hnon:h.no=no) (hE:EpochsOk h.m h.ep 2) (hq1:1≤h.q) (hq12:h.q≤12) (hpl:IsPlan h.m h.t h.l n) (hz:h.sz≤60) (hlen:len=10+h.q+Cof.ngroups h.m h.t h.l h.sz+8) (hR:R=h.s.extract (10+h.q) h.s.size) (hm:m=2*len) (hfit:m≤R.size) :
  Calls Tryz.prog 107 #[.string T,.int .i64 n,.int .i64 no] w fun e w'=>∃g cap g2 cap2,e=.returned (.tuple #[.agg #[.string (h.s.extract 10 (10+h.q)),.int .i64 h.m,.int .i64 h.t,.int .i64 h.l,.int .i64 h.sz,.int .i64 h.ep,.slice (some ⟨g,0,none⟩) len cap,.slice (some ⟨g2,0,none⟩) len cap2],.string (R.extract m R.size),.nilIface])∧w.heap.size≤g∧len≤cap∧FB w' g (R.extract 0 len).data.toList∧w.heap.size≤g2∧len≤cap2∧FB w' g2 (R.extract len (2*len)).data.toList∧g2≠g∧Below w.heap.size w w':=by
 have hTs:11≤T.size:=by have h1:=H.h10;rw [H.hs] at h1;simp at h1;omega
 have hng:=ngroups_le hpl h.sz hz
 have hsq:(h.s.extract 10 (10+h.q)).size=h.q:=by have:=H.hfit;simp;omega
 have HRD:=hid (fun w'=>H.read w')
 have HEP:=hid (fun w'=>epochs_ok (h.s.extract 10 (10+h.q)) h.m h.t h.l h.sz h.ep 2 w' hE)
 have HLL:=hid (fun w'=>llen_ok h.m h.t h.l n no h.ep h.sz (h.s.extract 10 (10+h.q)) w' hpl hz (by rw [hsq];exact hq1) (by rw [hsq];exact hq12) hng)
 have eln:(10+((h.s.extract 10 (10+h.q)).size:Int)+((Cof.ngroups h.m h.t h.l h.sz:Nat):Int)+8)=(len:Int):=by rw [hsq,hlen];omega
 rw [eln] at HLL
 rw [hstn,hnon] at HRD
 have hlen90:len≤90:=by omega
 have hlen0:1≤len:=by omega
 have hTb:=H.big
 have t0:(T[0]'(by omega)).toNat=2:=by rw [←byte_at T 0 (by omega),H.c0];rfl
 have ets:h.s=T.extract 1 T.size:=H.hs
 have hRb:R.size≤9223372036854775807:=by rw [hR,ets];simp;omega
 rw [ets] at HRD HEP HLL hR ⊢
 rw [←hR] at HRD
 generalize (T.extract 1 T.size).extract 10 (10+h.q)=nm at *
 generalize h.m=mo at *
 generalize h.t=t at *
 generalize h.l=l at *
 generalize h.sz=z at *
 generalize h.ep=ep at *
 have h1T:(1:Int)≤(T.size:Int):=by omega
 have hTne:¬T=ByteArray.empty:=fun e=>by rw [e] at hTs;simp at hTs
 have hm':(2:Int)*(len:Int)=(m:Int):=by omega
 have hmR:¬(R.size:Int)<(m:Int):=by omega
 have hlR:(len:Int)≤(R.size:Int):=by omega
 have HLR:=hid (show len≤R.size by omega)
 have HM:=hid hm
 have HFIT:=hid hfit
 clear H hstn hnon hE hq1 hq12 hpl hz hlen hR hng hsq eln ets hm hfit
 go_enter Tryz.func107,Tryz.ntmps107
 go_wp2_with fail
 refine (HRD.out _).mono ?_
 rintro e w2 ⟨rfl,hb2⟩
 go_wp2_with fail
 have hbw1:=(Below.refl w.heap.size w).alloc (Nat.le_refl _) (.cells #[.string ⟨#[]⟩,.int .i64 0,.int .i64 0,.int .i64 0,.int .i64 0,.int .i64 0,.slice none 0 0,.slice none 0 0] 127)
 have HA2:=(hb2.block w.heap.size (by simp)).trans (alloc_at w (.cells #[.string ⟨#[]⟩,.int .i64 0,.int .i64 0,.int .i64 0,.int .i64 0,.int .i64 0,.slice none 0 0,.slice none 0 0] 127))
 have hb02:Below w.heap.size w w2:=hbw1.trans (hb2.mono (by simp))
 have hA2:w.heap.size<w2.heap.size:=cells_lt HA2
 have hba3:=(Below.refl w2.heap.size w2).alloc (Nat.le_refl _) (.cells #[.string nm,.int .i64 mo,.int .i64 t,.int .i64 l,.int .i64 z,.int .i64 ep,.int .i64 n,.int .i64 no] 134)
 have HL3:=alloc_at w2 (.cells #[.string nm,.int .i64 mo,.int .i64 t,.int .i64 l,.int .i64 z,.int .i64 ep,.int .i64 n,.int .i64 no] 134)
 have HA3:=(hba3.block _ hA2).trans HA2
 generalize w2.alloc (.cells #[.string nm,.int .i64 mo,.int .i64 t,.int .i64 l,.int .i64 z,.int .i64 ep,.int .i64 n,.int .i64 no] 134)=w3 at *
 have hb03:Below w.heap.size w w3:=hb02.trans (hba3.mono hb02.size)
 refine (HEP.out w3).mono ?_
 rintro e w4 ⟨rfl,hb4⟩
 have hl3:w2.heap.size<w3.heap.size:=cells_lt HL3
 have HL4:=(hb4.block _ hl3).trans HL3
 have HA4:=(hb4.block _ (cells_lt HA3)).trans HA3
 have hb04:Below w.heap.size w w4:=hb03.trans (hb4.mono hb03.size)
 have x0:w4.cell? ⟨w2.heap.size,0,none⟩=some (.string nm):=by rw [cells_at HL4];rfl
 have x1:w4.cell? ⟨w2.heap.size,1,none⟩=some (.int .i64 mo):=by rw [cells_at HL4];rfl
 have x2:w4.cell? ⟨w2.heap.size,2,none⟩=some (.int .i64 t):=by rw [cells_at HL4];rfl
 have x3:w4.cell? ⟨w2.heap.size,3,none⟩=some (.int .i64 l):=by rw [cells_at HL4];rfl
 have x4:w4.cell? ⟨w2.heap.size,4,none⟩=some (.int .i64 z):=by rw [cells_at HL4];rfl
 have x5:w4.cell? ⟨w2.heap.size,5,none⟩=some (.int .i64 ep):=by rw [cells_at HL4];rfl
 have x6:w4.cell? ⟨w2.heap.size,6,none⟩=some (.int .i64 n):=by rw [cells_at HL4];rfl
 have x7:w4.cell? ⟨w2.heap.size,7,none⟩=some (.int .i64 no):=by rw [cells_at HL4];rfl
 have HHL4:=hid HL4
 have HHA4:=hid HA4
 clear HL4 HA4 HA3 HL3 HA2
 go_wp2_with fail
 refine (HLL.out w4).mono ?_
 rintro e w5 ⟨rfl,hb5⟩
 have HL5:=hid ((hb5.block _ (cells_lt HHL4.out)).trans HHL4.out)
 have HA5:=hid ((hb5.block _ (cells_lt HHA4.out)).trans HHA4.out)
 have hb05:Below w.heap.size w w5:=hb04.trans (hb5.mono hb04.size)
 have hsz5:w.heap.size<w5.heap.size:=cells_lt HA5.out
 clear x0 x1 x2 x3 x4 x5 x6 x7 HHL4 HHA4
 go_wp2_with fail
 have HCX:=hid (show ∀w':World,Below w5.heap.size { w5 with drawn:=w5.drawn+1 } w'→w'.cell? ⟨w2.heap.size,0,none⟩=some (.string nm)∧w'.cell? ⟨w2.heap.size,1,none⟩=some (.int .i64 mo)∧w'.cell? ⟨w2.heap.size,2,none⟩=some (.int .i64 t)∧w'.cell? ⟨w2.heap.size,3,none⟩=some (.int .i64 l)∧w'.cell? ⟨w2.heap.size,4,none⟩=some (.int .i64 z)∧w'.cell? ⟨w2.heap.size,5,none⟩=some (.int .i64 ep) from fun w' hs=>by
  have hh:=(hs.block _ (cells_lt HL5.out)).trans HL5.out
  exact ⟨by rw [cells_at hh];rfl,by rw [cells_at hh];rfl,by rw [cells_at hh];rfl,by rw [cells_at hh];rfl,by rw [cells_at hh];rfl,by rw [cells_at hh];rfl⟩)
 have hlR2:¬(R.size:Int)<(len:Int):=by omega
 have HFX:∀a:Act,(∀x∈[((6:Nat),Value.pointer (some ⟨w.heap.size,0,none⟩)),(9,.int .i64 2),(10,.pointer (some ⟨w2.heap.size,0,none⟩)),(11,.string R),(14,.int .i64 len)],a.tmps.getD x.1 undef=x.2)→a.tmps[10]?.getD undef=.pointer (some ⟨w2.heap.size,0,none⟩)∧a.tmps[11]?.getD undef=.string R∧a.tmps[14]?.getD undef=.int .i64 len:=by
  intro a hx
  have:=hx
  simp at this
  exact ⟨this.2.2.1,this.2.2.2.1,this.2.2.2.2⟩
 refine wp_region_mem2 (by kernel_rfl) irS (irV w.heap.size w2.heap.size nm R mo t l z ep len) [(6,.pointer (some ⟨w.heap.size,0,none⟩)),(9,.int .i64 2),(10,.pointer (some ⟨w2.heap.size,0,none⟩)),(11,.string R),(14,.int .i64 len)] 95 7 8 6 [6,9,10,11,14] 127 #[.string ⟨#[]⟩,.int .i64 0,.int .i64 0,.int .i64 0,.int .i64 0,.int .i64 0,.slice none 0 0,.slice none 0 0] (.tmp 15) (by kernel_rfl) rfl ⟨_,rfl,fun a w'=>by go_simp⟩ ⟨_,rfl,rfl,fun a=>by simp [Act.eval,irS]⟩ (by decide) (by decide) ⟨_,rfl,by simp [Region.binds]⟩ ?_ (by kernel_rfl) rfl rfl ?_ (fun j v w2 w3 hr hb=>irV_keeps _ _ _ _ _ _ _ _ _ _ j v w2 w3 hr (fun g xs hf=>hf.keeps (Spared.ofBelow (own:=fun _=>False) hb (Nat.le_refl _)) (fun h=>h))) (fun j v w2 b c c' hb hr _=>irV_keeps _ _ _ _ _ _ _ _ _ _ j v w2 _ hr (fun g xs hf=>hf.setRow hb)) ?_ ?_
 ·intro v w' hv
  obtain ⟨g,cap,rfl,_⟩:=hv
  exact ⟨_,rfl,rfl,by simp [Value.oneCell']⟩
 ·simp
 ·refine ⟨?_,?_,?_,?_,?_,?_,?_,?_,?_,trivial⟩
  ·refine .inr (.inr fun a w' hb hf hd=>?_)
   obtain ⟨f10,f11,f14⟩:=HFX a hf
   obtain ⟨k0,k1,k2,k3,k4,k5⟩:=HCX.out w' hb
   have hd0:=hd
   simp [irV,irS,Region.binds] at hd
   exact .inl ⟨.pointer (some ⟨w2.heap.size,0,none⟩),w',by go_simp,Below.refl _ _,rfl⟩
  ·refine .inr (.inr fun a w' hb hf hd=>?_)
   obtain ⟨f10,f11,f14⟩:=HFX a hf
   obtain ⟨k0,k1,k2,k3,k4,k5⟩:=HCX.out w' hb
   have hd0:=hd
   simp [irV,irS,Region.binds] at hd
   exact .inl ⟨.agg #[.string nm,.int .i64 mo,.int .i64 t,.int .i64 l,.int .i64 z,.int .i64 ep],w',by go_simp,Below.refl _ _,rfl⟩
  ·refine .inr (.inr fun a w' hb hf hd=>?_)
   obtain ⟨f10,f11,f14⟩:=HFX a hf
   obtain ⟨k0,k1,k2,k3,k4,k5⟩:=HCX.out w' hb
   have hd0:=hd
   simp [irV,irS,Region.binds] at hd
   exact .inl ⟨.string R,w',by go_simp,Below.refl _ _,rfl⟩
  ·refine .inr (.inr fun a w' hb hf hd=>?_)
   obtain ⟨f10,f11,f14⟩:=HFX a hf
   obtain ⟨k0,k1,k2,k3,k4,k5⟩:=HCX.out w' hb
   have hd0:=hd
   simp [irV,irS,Region.binds] at hd
   exact .inl ⟨.int .i64 len,w',by go_simp,Below.refl _ _,rfl⟩
  ·refine .inr (.inr fun a w' hb hf hd=>?_)
   obtain ⟨f10,f11,f14⟩:=HFX a hf
   obtain ⟨k0,k1,k2,k3,k4,k5⟩:=HCX.out w' hb
   have hd0:=hd
   simp [irV,irS,Region.binds] at hd
   exact .inl ⟨.string (R.extract 0 len),w',by go_simp,Below.refl _ _,rfl⟩
  ·refine .inr (.inr fun a w' hb hf hd=>?_)
   obtain ⟨f10,f11,f14⟩:=HFX a hf
   obtain ⟨k0,k1,k2,k3,k4,k5⟩:=HCX.out w' hb
   have hd0:=hd
   simp [irV,irS,Region.binds] at hd
   obtain ⟨cap,w'',hrun,hFB,hbel,hcap⟩:=conv_own2 w' (R.extract 0 len)
   have hsz:(R.extract 0 len).size=len:=by have:=HLR.out;simp;omega
   rw [hsz] at hrun hcap
   exact .inl ⟨.slice (some ⟨w'.heap.size,0,none⟩) len cap,w'',by go_simp,hbel,w'.heap.size,cap,rfl,by have:=hb.size;simp at this;omega,hcap,hFB⟩
  ·refine .inr (.inr fun a w' hb hf hd=>?_)
   obtain ⟨f10,f11,f14⟩:=HFX a hf
   obtain ⟨k0,k1,k2,k3,k4,k5⟩:=HCX.out w' hb
   have hd0:=hd
   simp [irV,irS,Region.binds] at hd
   have h74:=hd0 ⟨1,.data⟩ (by simp) rfl (by decide) (by decide)
   obtain ⟨g,cap,h78,hg1,hg2,hg3⟩:=hd0 ⟨5,.data⟩ (by simp) rfl (by decide) (by decide)
   simp [irV,irS] at h74 h78
   exact .inl ⟨.agg #[.string nm,.int .i64 mo,.int .i64 t,.int .i64 l,.int .i64 z,.int .i64 ep,.slice (some ⟨g,0,none⟩) len cap,.slice none 0 0],w',by go_simp,Below.refl _ _,g,cap,rfl,hg1,hg2,hg3⟩
  ·exact .inl rfl
  ·exact .inr (.inl rfl)
 ·intro a1 w6 b cs hdf hsz hb6 hf hr hb1 hb2 hb3 hcs
  obtain ⟨tm,df⟩:=a1
  simp only at hdf hsz hf hr hb1 hcs
  subst hdf
  obtain ⟨g,cap,hv6,hg1,hg2,hg3⟩:=hr 6 (by decide) (by decide) (by decide)
  rw [hv6] at hcs
  cases hcs
  obtain ⟨f,hfk,rfl⟩:=arrF95 tm hsz
  have e6:f 6=.pointer (some ⟨w.heap.size,0,none⟩):=(hfk 6).symm.trans (hf (6,_) (by simp))
  have e9:f 9=.int .i64 2:=(hfk 9).symm.trans (hf (9,_) (by simp))
  have e10:f 10=.pointer (some ⟨w2.heap.size,0,none⟩):=(hfk 10).symm.trans (hf (10,_) (by simp))
  have e11:f 11=.string R:=(hfk 11).symm.trans (hf (11,_) (by simp))
  have e14:f 14=.int .i64 len:=(hfk 14).symm.trans (hf (14,_) (by simp))
  have e15:f 15=.pointer (some ⟨b,0,none⟩):=(hfk 15).symm.trans hb1
  simp only [e6,e9,e10,e11,e14,e15]
  clear hr hsz hf hb1 hv6 hfk e6 e9 e10 e11 e14 e15
  have HB3:=hid hb3
  have HG3:=hid hg3
  have hb56:Below w5.heap.size w5 w6:=(Below.refl w5.heap.size w5).drew.trans hb6
  have HA6:=hid ((hb56.block _ hsz5).trans HA5.out)
  have hb06:Below w.heap.size w w6:=hb05.trans (hb56.mono hb05.size)
  have hbA:b≠w.heap.size:=by omega
  have hblt:b<w6.heap.size:=cells_lt hb3
  clear hb3 hg3 hb6 HA5 HL5 HCX HFX HRD HEP HLL
  have h2R:(len:Int)≤(m:Int):=by omega
  have hmR2:(m:Int)≤(R.size:Int):=by omega
  have HM2:=hid (show m≤R.size from HFIT.out)
  have hmn:(m:Int).toNat=m:=by omega
  have hln:(len:Int).toNat=len:=by omega
  obtain ⟨cap2,w7,hrun,hFB2,hb67,hcap2⟩:=conv_own2 w6 (R.extract len m)
  have hsz2:(R.extract len m).size=len:=by have:=HFIT.out;have:=HM.out;simp;omega
  rw [hsz2] at hrun hcap2
  have HFB2:=hid hFB2
  have HB7:=hid ((hb67.block _ hblt).trans HB3.out)
  have HA7:=hid ((hb67.block _ (cells_lt HA6.out)).trans HA6.out)
  have HG7:=hid (HG3.out.keeps (Spared.ofBelow (own:=fun _=>False) hb67 (Nat.le_refl _)) (fun h=>h))
  have hf7:w7.frozen? ⟨b,7,none⟩=false:=cells_fz HB7.out
  have hc7:w7.cell? ⟨b,7,none⟩=some (.slice none 0 0):=by rw [cells_at HB7.out];rfl
  have hgl:g<w6.heap.size:=by obtain ⟨C,h1,_⟩:=HG3.out;exact cells_lt h1
  have HGL:=hid hgl
  have HB8:=hid (cells_set (k:=7) (.slice (some ⟨w6.heap.size,0,none⟩) len cap2) HB7.out)
  clear hFB2 hsz2 hgl
  have wmm:IntKind.i64.wrap (m:Int)=(m:Int):=by rw [IntKind.wrap_i64];omega
  go_wp2_with fail
  have hs78:Spared (fun k=>k=b) w7 (w7.setCell ⟨b,7,none⟩ (.slice (some ⟨w6.heap.size,0,none⟩) len cap2)):=(Spared.refl (fun k=>k=b) w7).setCell (p:=⟨b,7,none⟩) rfl _
  generalize w7.setCell ⟨b,7,none⟩ (.slice (some ⟨w6.heap.size,0,none⟩) len cap2)=w8 at *
  have hs68:Spared (fun k=>k=b) w6 w8:=(Spared.ofBelow hb67 (Nat.le_refl _)).trans hs78
  have HA8:=hid (hs78.heap HA7.out (fun e=>hbA e.symm))
  have HG8:=hid (HG7.out.keeps hs78 (fun e=>by obtain ⟨C,h1,_⟩:=HG7.out;rw [e,HB7.out] at h1;cases h1))
  have HFB8:=hid (HFB2.out.keeps hs78 (fun e=>by omega))
  have HBW:=hid (show Below w.heap.size w w8 from hb06.trans (hs68.below w.heap.size hb06.size (fun k hk=>by omega)))
  have hg68:w6.heap.size≠g:=by have:=HGL.out;omega
  have hg2W:w.heap.size≤w6.heap.size:=hb06.size
  obtain ⟨g2,hg2e⟩:∃g2,g2=w6.heap.size:=⟨_,rfl⟩
  rw [←hg2e] at HB8 HFB8 hg68 hg2W ⊢
  have HG2E:=hid hg2e
  clear hg2e hrun hf7 hc7 HB7 HA7 HG7 HFB2 HB3 HG3 HA6 hs78 hs68 hb67
  obtain ⟨rc,hrc⟩:∃rc:Array Value,rc=#[.string nm,.int .i64 mo,.int .i64 t,.int .i64 l,.int .i64 z,.int .i64 ep,.slice (some ⟨g,0,none⟩) len cap,.slice (some ⟨g2,0,none⟩) len cap2]:=⟨_,rfl⟩
  have HRC:=hid hrc
  have HCW:=hid (show ∀w':World,Spared (fun k=>∃i,i=6∧k=w.heap.size) { w8 with drawn:=w8.drawn+1 } w'→w'.heap[b]?=some (.cells rc 127) from fun w' hs=>by
   rw [hrc]
   exact hs.heap (b:=b) HB8.out (by rintro ⟨i,_,e⟩;exact hbA e))
  have MK:∀(i:Nat) (a:Act) (w':World) (o:Oper),a.tmps.size=95→i<9→i≠6→StepOk Tryz.prog o a w' (fun u w''=>Spared (fun k=>i=6∧k=w.heap.size) w' w''∧iqV 2 R len m rc i u)→StepOk2 Tryz.prog o a w' (fun u w''=>Spared (fun k=>i=6∧k=w.heap.size) w' w''∧iqA 2 R len m rc w.heap.size i (a.put (iqSlot i) u) w''):=by
   intro i a w' o hsz hi h6 hh
   refine .inl <| hh.weaken fun u w'' hp=>⟨hp.1,?_,fun e=>absurd e h6⟩
   have e:iqSlot i=some (iqS i):=by
    unfold iqSlot iqS
    rw [if_neg h6]
    split
    ·rfl
    ·split<;>rfl
   have hlt:iqS i<a.tmps.size:=by
    unfold iqS
    split
    ·omega
    ·split<;>omega
   rw [e,put_eq _ _ _ hlt]
   exact hp.2
  refine wp_region_own2 (by kernel_rfl) iqSlot (iqA 2 R len m rc w.heap.size) (iqU w.heap.size) (fun i k=>i=6∧k=w.heap.size) [(6,.pointer (some ⟨w.heap.size,0,none⟩)),(9,.int .i64 2),(11,.string R),(14,.int .i64 len),(15,.pointer (some ⟨b,0,none⟩))] 95 (fun i=>if i=0 then [15] else if i=1 then [11] else if i=2 then [9] else if i=3 then [14] else if i=6 then [6] else []) (by kernel_rfl) rfl rfl ?_ ?_ ?_ ?_ ?_ ?_
  ·simp
  ·intro j _ _
   exact ⟨_,rfl,HA8.out⟩
  ·intro i j ac u w3 w4 hj hij hwt _ hr hs hsl
   refine ⟨?_,fun h6=>?_⟩
   ·by_cases h6:j=6
    ·subst h6;trivial
    ·have e:((ac.put (iqSlot i) u).tmps.getD (iqS j) undef)=ac.tmps.getD (iqS j) undef:=by
      have ej:iqSlot j=some (iqS j):=by
       unfold iqSlot iqS
       rw [if_neg h6]
       split
       ·rfl
       ·split<;>rfl
      cases hq:iqSlot i with
      | none=>rfl
      | some t=>exact put_ne _ _ _ _ (fun e=>hsl (by rw [hq,ej,e]))
     rw [e]
     exact hr.1
   ·refine hs.heap (hr.2 h6) ?_
    rintro ⟨h,_⟩
    omega
  ·intro i j w3 w4 hij _ _ hr hs h6
   obtain ⟨old,h1,h2⟩:=hr h6
   exact ⟨old,h1,hs.heap h2 (fun ⟨h,_⟩=>hij (by omega))⟩
  ·refine ⟨?_,?_,?_,?_,?_,?_,?_,?_,?_,trivial⟩
   ·intro ac w' hsz hs hf hd2 hu
    have hd:=fun e he hb=>(hd2 e he hb).1.1
    refine MK 0 ac w' _ hsz (by decide) (by decide) ?_
    clear hsz
    have f15:ac.tmps[15]?.getD undef=.pointer (some ⟨b,0,none⟩):=by simpa using hf (15,.pointer (some ⟨b,0,none⟩)) (by simp) rfl
    have hh:=HCW.out w' (hs.mono fun k ⟨i,h⟩=>⟨i,h⟩)
    rw [HRC.out] at hh ⊢
    have q0:w'.cell? ⟨b,0,none⟩=some (.string nm):=by rw [cells_at hh];rfl
    have q1:w'.cell? ⟨b,1,none⟩=some (.int .i64 mo):=by rw [cells_at hh];rfl
    have q2:w'.cell? ⟨b,2,none⟩=some (.int .i64 t):=by rw [cells_at hh];rfl
    have q3:w'.cell? ⟨b,3,none⟩=some (.int .i64 l):=by rw [cells_at hh];rfl
    have q4:w'.cell? ⟨b,4,none⟩=some (.int .i64 z):=by rw [cells_at hh];rfl
    have q5:w'.cell? ⟨b,5,none⟩=some (.int .i64 ep):=by rw [cells_at hh];rfl
    have q6:w'.cell? ⟨b,6,none⟩=some (.slice (some ⟨g,0,none⟩) len cap):=by rw [cells_at hh];rfl
    have q7:w'.cell? ⟨b,7,none⟩=some (.slice (some ⟨g2,0,none⟩) len cap2):=by rw [cells_at hh];rfl
    simp [iqV,iqS,Region.binds] at hd
    exact .inl ⟨.agg #[.string nm,.int .i64 mo,.int .i64 t,.int .i64 l,.int .i64 z,.int .i64 ep,.slice (some ⟨g,0,none⟩) len cap,.slice (some ⟨g2,0,none⟩) len cap2],w',by go_simp,Spared.refl _ _,rfl⟩
   ·intro ac w' hsz hs hf hd2 hu
    have hd:=fun e he hb=>(hd2 e he hb).1.1
    refine MK 1 ac w' _ hsz (by decide) (by decide) ?_
    clear hsz
    have f11:ac.tmps[11]?.getD undef=.string R:=by simpa using hf (11,.string R) (by simp) rfl
    simp [iqV,iqS,Region.binds] at hd
    exact .inl ⟨.string R,w',by go_simp,Spared.refl _ _,rfl⟩
   ·intro ac w' hsz hs hf hd2 hu
    have hd:=fun e he hb=>(hd2 e he hb).1.1
    refine MK 2 ac w' _ hsz (by decide) (by decide) ?_
    clear hsz
    have f9:ac.tmps[9]?.getD undef=.int .i64 2:=by simpa using hf (9,.int .i64 2) (by simp) rfl
    simp [iqV,iqS,Region.binds] at hd
    exact .inl ⟨.int .i64 2,w',by go_simp,Spared.refl _ _,rfl⟩
   ·intro ac w' hsz hs hf hd2 hu
    have hd:=fun e he hb=>(hd2 e he hb).1.1
    refine MK 3 ac w' _ hsz (by decide) (by decide) ?_
    clear hsz
    have f14:ac.tmps[14]?.getD undef=.int .i64 len:=by simpa using hf (14,.int .i64 len) (by simp) rfl
    simp [iqV,iqS,Region.binds] at hd
    exact .inl ⟨.int .i64 len,w',by go_simp,Spared.refl _ _,rfl⟩
   ·intro ac w' hsz hs hf hd2 hu
    have hd:=fun e he hb=>(hd2 e he hb).1.1
    refine MK 4 ac w' _ hsz (by decide) (by decide) ?_
    clear hsz
    simp [iqV,iqS,Region.binds] at hd
    exact .inl ⟨.int .i64 m,w',by go_simp,Spared.refl _ _,rfl⟩
   ·intro ac w' hsz hs hf hd2 hu
    have hd:=fun e he hb=>(hd2 e he hb).1.1
    refine MK 5 ac w' _ hsz (by decide) (by decide) ?_
    clear hsz
    simp [iqV,iqS,Region.binds] at hd
    exact .inl ⟨.string (R.extract m R.size),w',by go_simp,Spared.refl _ _,rfl⟩
   ·intro ac w' hsz hs hf hd2 hu
    obtain ⟨old,ho1,ho2⟩:=hu rfl
    have f6:ac.tmps[6]?.getD undef=.pointer (some ⟨w.heap.size,0,none⟩):=by simpa using hf (6,.pointer (some ⟨w.heap.size,0,none⟩)) (by simp) rfl
    have h89:ac.tmps[89]?.getD undef=.agg rc:=by
     have:=(hd2 ⟨0,.data⟩ (by simp) rfl).1.1
     simpa [iqV,iqS] using this
    have hrs:rc.size=8:=by rw [HRC.out];rfl
    refine store_agg 127 (.tmp 6) (.tmp 89) rfl w.heap.size rc (by simp [Act.eval];exact f6) (by simp [Act.eval];exact h89) 127 old ho2 (by rw [hrs];exact Tryz.cellsRec) (by rw [hrs,ho1]) (by rw [HRC.out];simp [Value.oneCell']) ⟨?_,?_,fun _=>?_⟩
    ·exact (setRow_spared w' w.heap.size rc).mono fun k hk=>⟨rfl,hk⟩
    ·trivial
    ·exact setRow_heap _ _ _ _ _ _ ho2
   ·intro ac w' hsz hs hf hd2 hu
    have hd:=fun e he hb=>(hd2 e he hb).1.1
    refine MK 7 ac w' _ hsz (by decide) (by decide) ?_
    clear hsz
    simp [iqV,iqS,Region.binds] at hd
    exact .inl ⟨.string (R.extract m R.size),w',by go_simp,Spared.refl _ _,rfl⟩
   ·intro ac w' hsz hs hf hd2 hu
    have hd:=fun e he hb=>(hd2 e he hb).1.1
    refine MK 8 ac w' _ hsz (by decide) (by decide) ?_
    clear hsz
    simp [iqV,iqS,Region.binds] at hd
    exact .inl ⟨.nilIface,w',by go_simp,Spared.refl _ _,rfl⟩
  ·intro ac w' hdf hsz hsp hfx hr
   have r6:=(hr 6 (by decide)).2 rfl
   have r7:=(hr 7 (by decide)).1
   have r8:=(hr 8 (by decide)).1
   have f6:ac.tmps.getD 6 undef=.pointer (some ⟨w.heap.size,0,none⟩):=hfx (6,_) (by simp) (fun k hk e=>by
    unfold iqSlot at e
    split at e
    ·cases e
    ·split at e
     ·simp at e
     ·split at e
      ·simp at e
      ·simp at e)
   obtain ⟨tm,df⟩:=ac
   simp only at hdf hsz r7 r8 f6
   subst hdf
   obtain ⟨f,hfk,rfl⟩:=arrF95 tm hsz
   have e6:f 6=.pointer (some ⟨w.heap.size,0,none⟩):=(hfk 6).symm.trans f6
   have e7:f 7=.string (R.extract m R.size):=(hfk 7).symm.trans r7
   have e8:f 8=.nilIface:=(hfk 8).symm.trans r8
   simp only [e6,e7,e8]
   rw [HRC.out] at r6
   have x0:w'.cell? ⟨w.heap.size,0,none⟩=some (.string nm):=by rw [cells_at r6];rfl
   have x1:w'.cell? ⟨w.heap.size,1,none⟩=some (.int .i64 mo):=by rw [cells_at r6];rfl
   have x2:w'.cell? ⟨w.heap.size,2,none⟩=some (.int .i64 t):=by rw [cells_at r6];rfl
   have x3:w'.cell? ⟨w.heap.size,3,none⟩=some (.int .i64 l):=by rw [cells_at r6];rfl
   have x4:w'.cell? ⟨w.heap.size,4,none⟩=some (.int .i64 z):=by rw [cells_at r6];rfl
   have x5:w'.cell? ⟨w.heap.size,5,none⟩=some (.int .i64 ep):=by rw [cells_at r6];rfl
   have x6:w'.cell? ⟨w.heap.size,6,none⟩=some (.slice (some ⟨g,0,none⟩) len cap):=by rw [cells_at r6];rfl
   have x7:w'.cell? ⟨w.heap.size,7,none⟩=some (.slice (some ⟨g2,0,none⟩) len cap2):=by rw [cells_at r6];rfl
   have hspA:Spared (fun k=>k=w.heap.size) w8 w':=((Spared.refl (fun k=>k=w.heap.size) w8).drew).trans (hsp.mono (by rintro k ⟨i,_,e⟩;exact e))
   have hbF:Below w.heap.size w w':=HBW.out.trans (hspA.below w.heap.size HBW.out.size (fun k hk=>by omega))
   have hgF:=HG8.out.keeps hspA (by intro e;obtain ⟨C,h1,_⟩:=HG8.out;rw [e,HA8.out] at h1;cases h1)
   have hg2F:=HFB8.out.keeps hspA (by intro e;obtain ⟨C,h1,_⟩:=HFB8.out;rw [e,HA8.out] at h1;cases h1)
   rw [HM.out] at hg2F
   clear hr hsz hfx r6 r7 r8 f6 hfk e6 e7 e8
   go_wp2_with fail
   refine bodyPost_ret (v:=.tuple #[.agg #[.string nm,.int .i64 mo,.int .i64 t,.int .i64 l,.int .i64 z,.int .i64 ep,.slice (some ⟨g,0,none⟩) len cap,.slice (some ⟨g2,0,none⟩) len cap2],.string (R.extract m R.size),.nilIface]) ?_ rfl ⟨g,cap,g2,cap2,rfl,hg1,hg2,hgF,hg2W,hcap2,hg2F,hg68,hbF⟩
   simp [results,Tryz.results107,go_sem,x0,x1,x2,x3,x4,x5,x6,x7]
def INo (w:World) (e:Ending) (w':World):Prop:=∃ev k d,d≤3∧e=.returned (.tuple #[.agg #[.string ⟨#[]⟩,.int .i64 0,.int .i64 0,.int .i64 0,.int .i64 0,.int .i64 0,.slice none 0 0,.slice none 0 0],.string ⟨#[]⟩,ev])∧Chain w' k d ev∧Below w.heap.size w w'
set_option maxRecDepth 100000 in
set_option maxHeartbeats 4000000 in
theorem iread_no1 (T:ByteArray) (c n no:Nat) (w:World) (h1:1≤T.size) (hbig:T.size≤9223372036854775807) (hc:(T[0]'(by omega)).toNat=c) (hno:(T.extract 1 T.size).size<10∨∃h:10≤(T.extract 1 T.size).size,(T.extract 1 T.size).size<10+((T.extract 1 T.size)[9]'(by omega)).toNat) (hT:Tab w) :
  Calls Tryz.prog 107 #[.string T,.int .i64 n,.int .i64 no] w fun e w'=>INo w e w':=by
 have HRD:=hid (fun w' (hT:Tab w')=>read_no (T.extract 1 T.size) w' (by simp;omega) hno hT)
 have HT:=hid (hT.keeps ((Below.refl w.heap.size w).alloc (Nat.le_refl _) (.cells #[.string ⟨#[]⟩,.int .i64 0,.int .i64 0,.int .i64 0,.int .i64 0,.int .i64 0,.slice none 0 0,.slice none 0 0] 127)) (Nat.le_refl _))
 have h1T:(1:Int)≤(T.size:Int):=by omega
 have hTne:¬T=ByteArray.empty:=fun e=>by rw [e] at h1;simp at h1
 have wc:wrap64 (c:Int)=(c:Int):=by have:=(T[0]'(by omega)).toNat_lt;unfold wrap64;omega
 clear hno hT
 go_enter Tryz.func107,Tryz.ntmps107
 go_wp2_with fail
 refine (HRD.out _ HT.out).mono ?_
 rintro e w2 ⟨ev,rfl,hch,hb2⟩
 obtain ⟨te,ve,rfl⟩:=hch.shape
 have hbw1:=(Below.refl w.heap.size w).alloc (Nat.le_refl _) (.cells #[.string ⟨#[]⟩,.int .i64 0,.int .i64 0,.int .i64 0,.int .i64 0,.int .i64 0,.slice none 0 0,.slice none 0 0] 127)
 have HA2:=(hb2.block w.heap.size (by simp)).trans (alloc_at w (.cells #[.string ⟨#[]⟩,.int .i64 0,.int .i64 0,.int .i64 0,.int .i64 0,.int .i64 0,.slice none 0 0,.slice none 0 0] 127))
 have hb02:Below w.heap.size w w2:=hbw1.trans (hb2.mono (by simp))
 have hA2:w.heap.size<w2.heap.size:=cells_lt HA2
 have hba3:=(Below.refl w2.heap.size w2).alloc (Nat.le_refl _) (.cells #[.string ⟨#[]⟩,.int .i64 0,.int .i64 0,.int .i64 0,.int .i64 0,.int .i64 0,.int .i64 0,.int .i64 0] 134)
 have HAF:=(hba3.block _ hA2).trans HA2
 have HCH:=hid (hch.keeps hba3 (Nat.le_refl _))
 have HB:=hid (hb02.trans (hba3.mono hb02.size))
 unfold noLabel
 clear hch hb2 HA2 hb02
 have HAZ:=hid HAF
 clear HAF
 go_wp2_with (first | (refine wpList_store_same rfl 127 (.tmp 6) (.tmp 28) rfl w.heap.size #[.string ⟨#[]⟩,.int .i64 0,.int .i64 0,.int .i64 0,.int .i64 0,.int .i64 0,.slice none 0 0,.slice none 0 0] rfl rfl 127 HAZ.out Tryz.cellsRec (by simp [Value.oneCell']) ?_)|fail)
 have x0:(w2.alloc (.cells #[.string ⟨#[]⟩,.int .i64 0,.int .i64 0,.int .i64 0,.int .i64 0,.int .i64 0,.int .i64 0,.int .i64 0] 134)).cell? ⟨w.heap.size,0,none⟩=some (.string ⟨#[]⟩):=by rw [cells_at HAZ.out];rfl
 have x1:(w2.alloc (.cells #[.string ⟨#[]⟩,.int .i64 0,.int .i64 0,.int .i64 0,.int .i64 0,.int .i64 0,.int .i64 0,.int .i64 0] 134)).cell? ⟨w.heap.size,1,none⟩=some (.int .i64 0):=by rw [cells_at HAZ.out];rfl
 have x2:(w2.alloc (.cells #[.string ⟨#[]⟩,.int .i64 0,.int .i64 0,.int .i64 0,.int .i64 0,.int .i64 0,.int .i64 0,.int .i64 0] 134)).cell? ⟨w.heap.size,2,none⟩=some (.int .i64 0):=by rw [cells_at HAZ.out];rfl
 have x3:(w2.alloc (.cells #[.string ⟨#[]⟩,.int .i64 0,.int .i64 0,.int .i64 0,.int .i64 0,.int .i64 0,.int .i64 0,.int .i64 0] 134)).cell? ⟨w.heap.size,3,none⟩=some (.int .i64 0):=by rw [cells_at HAZ.out];rfl
 have x4:(w2.alloc (.cells #[.string ⟨#[]⟩,.int .i64 0,.int .i64 0,.int .i64 0,.int .i64 0,.int .i64 0,.int .i64 0,.int .i64 0] 134)).cell? ⟨w.heap.size,4,none⟩=some (.int .i64 0):=by rw [cells_at HAZ.out];rfl
 have x5:(w2.alloc (.cells #[.string ⟨#[]⟩,.int .i64 0,.int .i64 0,.int .i64 0,.int .i64 0,.int .i64 0,.int .i64 0,.int .i64 0] 134)).cell? ⟨w.heap.size,5,none⟩=some (.int .i64 0):=by rw [cells_at HAZ.out];rfl
 have x6:(w2.alloc (.cells #[.string ⟨#[]⟩,.int .i64 0,.int .i64 0,.int .i64 0,.int .i64 0,.int .i64 0,.int .i64 0,.int .i64 0] 134)).cell? ⟨w.heap.size,6,none⟩=some (.slice none 0 0):=by rw [cells_at HAZ.out];rfl
 have x7:(w2.alloc (.cells #[.string ⟨#[]⟩,.int .i64 0,.int .i64 0,.int .i64 0,.int .i64 0,.int .i64 0,.int .i64 0,.int .i64 0] 134)).cell? ⟨w.heap.size,7,none⟩=some (.slice none 0 0):=by rw [cells_at HAZ.out];rfl
 refine bodyPost_ret (v:=.tuple #[.agg #[.string ⟨#[]⟩,.int .i64 0,.int .i64 0,.int .i64 0,.int .i64 0,.int .i64 0,.slice none 0 0,.slice none 0 0],.string ⟨#[]⟩,.iface te ve]) ?_ rfl ⟨_,_,2,by omega,rfl,HCH.out,HB.out⟩
 simp [results,Tryz.results107,go_sem,x0,x1,x2,x3,x4,x5,x6,x7]
set_option maxRecDepth 100000 in
set_option maxHeartbeats 4000000 in
theorem iread_no2 (T:ByteArray) (c:Nat) (h:Hd8) (n no:Nat) (w:World) (H:HeadIs T c h) (hT:Tab w) (hno:h.st≠n∨h.no≠no) (hn:n≤8) :
  Calls Tryz.prog 107 #[.string T,.int .i64 n,.int .i64 no] w fun e w'=>INo w e w':=by
 have hTs:11≤T.size:=by have h1:=H.h10;rw [H.hs] at h1;simp at h1;omega
 have HRD:=hid (fun w'=>H.read w')
 have hTb:=H.big
 have hcc:=H.c1
 have t0:(T[0]'(by omega)).toNat=c:=by rw [←byte_at T 0 (by omega),H.c0];simp;omega
 have wc:wrap64 (c:Int)=(c:Int):=by unfold wrap64;omega
 have ets:h.s=T.extract 1 T.size:=H.hs
 have hsq:(h.s.extract 10 (10+h.q)).size=h.q:=by have:=H.hfit;simp;omega
 have hst8:h.st<256:=by have:=H.hst;have:=(h.s.data.toList.getD 3 0).toNat_lt;omega
 have hno8:h.no<256:=by have:=H.hno;have:=(h.s.data.toList.getD 4 0).toNat_lt;omega
 have hm8:h.m<256:=by have:=H.hm;have:=(h.s.data.toList.getD 0 0).toNat_lt;omega
 have ht8:h.t<256:=by have:=H.ht;have:=(h.s.data.toList.getD 1 0).toNat_lt;omega
 have hl8:h.l<256:=by have:=H.hl;have:=(h.s.data.toList.getD 2 0).toNat_lt;omega
 have hep8:h.ep<65536:=by have:=H.hep;have:=(h.s.data.toList.getD 5 0).toNat_lt;have:=(h.s.data.toList.getD 6 0).toNat_lt;omega
 have hsz8:h.sz<65536:=by have:=H.hsz;have:=(h.s.data.toList.getD 7 0).toNat_lt;have:=(h.s.data.toList.getD 8 0).toNat_lt;omega
 rw [ets] at HRD
 rw [ets] at *
 generalize (T.extract 1 T.size).extract 10 (10+h.q)=nm at *
 generalize (T.extract 1 T.size).extract (10+h.q) (T.extract 1 T.size).size=R at *
 generalize h.m=mo at *
 generalize h.t=t at *
 generalize h.l=l at *
 generalize h.sz=z at *
 generalize h.ep=ep at *
 generalize h.st=sn at *
 generalize h.no=so at *
 have h1T:(1:Int)≤(T.size:Int):=by omega
 have hTne:¬T=ByteArray.empty:=fun e=>by rw [e] at hTs;simp at hTs
 have HT:=hid hT
 have hI:I64 (so:Int):=by unfold I64;omega
 have HNO:=hid hno
 clear H hT hno
 by_cases hsn:sn=n
 ·have hso:¬(so:Int)=(no:Int):=by have:=HNO.out;omega
  subst hsn
  have hso':((so:Int) != (no:Int))=true:=by simpa using hso
  clear hso
  go_enter Tryz.func107,Tryz.ntmps107
  go_wp2_with fail
  refine (HRD.out _).mono ?_
  rintro e w2 ⟨rfl,hb2⟩
  have hbw1:=(Below.refl w.heap.size w).alloc (Nat.le_refl _) (.cells #[.string ⟨#[]⟩,.int .i64 0,.int .i64 0,.int .i64 0,.int .i64 0,.int .i64 0,.slice none 0 0,.slice none 0 0] 127)
  have HA2:=(hb2.block w.heap.size (by simp)).trans (alloc_at w (.cells #[.string ⟨#[]⟩,.int .i64 0,.int .i64 0,.int .i64 0,.int .i64 0,.int .i64 0,.slice none 0 0,.slice none 0 0] 127))
  have hb02:Below w.heap.size w w2:=hbw1.trans (hb2.mono (by simp))
  have hA2:w.heap.size<w2.heap.size:=cells_lt HA2
  have hba3:=(Below.refl w2.heap.size w2).alloc (Nat.le_refl _) (.cells #[.string nm,.int .i64 mo,.int .i64 t,.int .i64 l,.int .i64 z,.int .i64 ep,.int .i64 sn,.int .i64 so] 134)
  have HL3:=alloc_at w2 (.cells #[.string nm,.int .i64 mo,.int .i64 t,.int .i64 l,.int .i64 z,.int .i64 ep,.int .i64 sn,.int .i64 so] 134)
  have HA3:=(hba3.block _ hA2).trans HA2
  have hb03:=hb02.trans (hba3.mono hb02.size)
  go_wp2_with fail
  generalize w2.alloc (.cells #[.string nm,.int .i64 mo,.int .i64 t,.int .i64 l,.int .i64 z,.int .i64 ep,.int .i64 sn,.int .i64 so] 134)=w3 at *
  refine (atStore_any (so:Int) _ 13 0 w3 hI (HT.out.keeps hb03 (Nat.le_refl _)) .hit).mono ?_
  rintro e w4 ⟨e4,rfl,hch4,hb4⟩
  have HAF:=(hb4.block _ (cells_lt HA3)).trans HA3
  have HCH:=hid hch4
  obtain ⟨te,ve,rfl⟩:=hch4.shape
  have HB:=hid (hb03.trans (hb4.mono hb03.size))
  clear hch4 hb4 hb2 HA2 hb02 HL3 HA3
  have HAZ:=hid HAF
  clear HAF
  go_wp2_with (first | (refine wpList_store_same rfl 127 (.tmp 6) (.tmp 40) rfl w.heap.size #[.string ⟨#[]⟩,.int .i64 0,.int .i64 0,.int .i64 0,.int .i64 0,.int .i64 0,.slice none 0 0,.slice none 0 0] rfl rfl 127 HAZ.out Tryz.cellsRec (by simp [Value.oneCell']) ?_)|fail)
  have x0:w4.cell? ⟨w.heap.size,0,none⟩=some (.string ⟨#[]⟩):=by rw [cells_at HAZ.out];rfl
  have x1:w4.cell? ⟨w.heap.size,1,none⟩=some (.int .i64 0):=by rw [cells_at HAZ.out];rfl
  have x2:w4.cell? ⟨w.heap.size,2,none⟩=some (.int .i64 0):=by rw [cells_at HAZ.out];rfl
  have x3:w4.cell? ⟨w.heap.size,3,none⟩=some (.int .i64 0):=by rw [cells_at HAZ.out];rfl
  have x4:w4.cell? ⟨w.heap.size,4,none⟩=some (.int .i64 0):=by rw [cells_at HAZ.out];rfl
  have x5:w4.cell? ⟨w.heap.size,5,none⟩=some (.int .i64 0):=by rw [cells_at HAZ.out];rfl
  have x6:w4.cell? ⟨w.heap.size,6,none⟩=some (.slice none 0 0):=by rw [cells_at HAZ.out];rfl
  have x7:w4.cell? ⟨w.heap.size,7,none⟩=some (.slice none 0 0):=by rw [cells_at HAZ.out];rfl
  refine bodyPost_ret (v:=.tuple #[.agg #[.string ⟨#[]⟩,.int .i64 0,.int .i64 0,.int .i64 0,.int .i64 0,.int .i64 0,.slice none 0 0,.slice none 0 0],.string ⟨#[]⟩,.iface te ve]) ?_ rfl ⟨_,_,1,by omega,rfl,HCH.out,HB.out⟩
  simp [results,Tryz.results107,go_sem,x0,x1,x2,x3,x4,x5,x6,x7]
 ·have hsn':((sn:Int) != (n:Int))=true:=by simp;omega
  clear hsn
  go_enter Tryz.func107,Tryz.ntmps107
  go_wp2_with fail
  refine (HRD.out _).mono ?_
  rintro e w2 ⟨rfl,hb2⟩
  have hbw1:=(Below.refl w.heap.size w).alloc (Nat.le_refl _) (.cells #[.string ⟨#[]⟩,.int .i64 0,.int .i64 0,.int .i64 0,.int .i64 0,.int .i64 0,.slice none 0 0,.slice none 0 0] 127)
  have HA2:=(hb2.block w.heap.size (by simp)).trans (alloc_at w (.cells #[.string ⟨#[]⟩,.int .i64 0,.int .i64 0,.int .i64 0,.int .i64 0,.int .i64 0,.slice none 0 0,.slice none 0 0] 127))
  have hb02:Below w.heap.size w w2:=hbw1.trans (hb2.mono (by simp))
  have hA2:w.heap.size<w2.heap.size:=cells_lt HA2
  have hba3:=(Below.refl w2.heap.size w2).alloc (Nat.le_refl _) (.cells #[.string nm,.int .i64 mo,.int .i64 t,.int .i64 l,.int .i64 z,.int .i64 ep,.int .i64 sn,.int .i64 so] 134)
  have HL3:=alloc_at w2 (.cells #[.string nm,.int .i64 mo,.int .i64 t,.int .i64 l,.int .i64 z,.int .i64 ep,.int .i64 sn,.int .i64 so] 134)
  have HA3:=(hba3.block _ hA2).trans HA2
  have hb03:=hb02.trans (hba3.mono hb02.size)
  go_wp2_with fail
  generalize w2.alloc (.cells #[.string nm,.int .i64 mo,.int .i64 t,.int .i64 l,.int .i64 z,.int .i64 ep,.int .i64 sn,.int .i64 so] 134)=w3 at *
  refine (atStore_any (so:Int) _ 13 0 w3 hI (HT.out.keeps hb03 (Nat.le_refl _)) .hit).mono ?_
  rintro e w4 ⟨e4,rfl,hch4,hb4⟩
  have HAF:=(hb4.block _ (cells_lt HA3)).trans HA3
  have HCH:=hid hch4
  obtain ⟨te,ve,rfl⟩:=hch4.shape
  have HB:=hid (hb03.trans (hb4.mono hb03.size))
  clear hch4 hb4 hb2 HA2 hb02 HL3 HA3
  have HAZ:=hid HAF
  clear HAF
  go_wp2_with (first | (refine wpList_store_same rfl 127 (.tmp 6) (.tmp 40) rfl w.heap.size #[.string ⟨#[]⟩,.int .i64 0,.int .i64 0,.int .i64 0,.int .i64 0,.int .i64 0,.slice none 0 0,.slice none 0 0] rfl rfl 127 HAZ.out Tryz.cellsRec (by simp [Value.oneCell']) ?_)|fail)
  have x0:w4.cell? ⟨w.heap.size,0,none⟩=some (.string ⟨#[]⟩):=by rw [cells_at HAZ.out];rfl
  have x1:w4.cell? ⟨w.heap.size,1,none⟩=some (.int .i64 0):=by rw [cells_at HAZ.out];rfl
  have x2:w4.cell? ⟨w.heap.size,2,none⟩=some (.int .i64 0):=by rw [cells_at HAZ.out];rfl
  have x3:w4.cell? ⟨w.heap.size,3,none⟩=some (.int .i64 0):=by rw [cells_at HAZ.out];rfl
  have x4:w4.cell? ⟨w.heap.size,4,none⟩=some (.int .i64 0):=by rw [cells_at HAZ.out];rfl
  have x5:w4.cell? ⟨w.heap.size,5,none⟩=some (.int .i64 0):=by rw [cells_at HAZ.out];rfl
  have x6:w4.cell? ⟨w.heap.size,6,none⟩=some (.slice none 0 0):=by rw [cells_at HAZ.out];rfl
  have x7:w4.cell? ⟨w.heap.size,7,none⟩=some (.slice none 0 0):=by rw [cells_at HAZ.out];rfl
  refine bodyPost_ret (v:=.tuple #[.agg #[.string ⟨#[]⟩,.int .i64 0,.int .i64 0,.int .i64 0,.int .i64 0,.int .i64 0,.slice none 0 0,.slice none 0 0],.string ⟨#[]⟩,.iface te ve]) ?_ rfl ⟨_,_,1,by omega,rfl,HCH.out,HB.out⟩
  simp [results,Tryz.results107,go_sem,x0,x1,x2,x3,x4,x5,x6,x7]
set_option maxRecDepth 100000 in
set_option maxHeartbeats 4000000 in
theorem iread_no3 (T:ByteArray) (c:Nat) (h:Hd8) (n no:Nat) (w:World) (H:HeadIs T c h) (hT:Tab w) (hstn:h.st=n) (hnon:h.no=no) (hE:¬EpochsOk h.m h.ep c) :
  Calls Tryz.prog 107 #[.string T,.int .i64 n,.int .i64 no] w fun e w'=>INo w e w':=by
 have hTs:11≤T.size:=by have h1:=H.h10;rw [H.hs] at h1;simp at h1;omega
 have HRD:=hid (fun w'=>H.read w')
 have hTb:=H.big
 have hcc:=H.c1
 have t0:(T[0]'(by omega)).toNat=c:=by rw [←byte_at T 0 (by omega),H.c0];simp;omega
 have wc:wrap64 (c:Int)=(c:Int):=by unfold wrap64;omega
 have ets:h.s=T.extract 1 T.size:=H.hs
 have hsq:(h.s.extract 10 (10+h.q)).size=h.q:=by have:=H.hfit;simp;omega
 have hst8:h.st<256:=by have:=H.hst;have:=(h.s.data.toList.getD 3 0).toNat_lt;omega
 have hno8:h.no<256:=by have:=H.hno;have:=(h.s.data.toList.getD 4 0).toNat_lt;omega
 have hm8:h.m<256:=by have:=H.hm;have:=(h.s.data.toList.getD 0 0).toNat_lt;omega
 have ht8:h.t<256:=by have:=H.ht;have:=(h.s.data.toList.getD 1 0).toNat_lt;omega
 have hl8:h.l<256:=by have:=H.hl;have:=(h.s.data.toList.getD 2 0).toNat_lt;omega
 have hep8:h.ep<65536:=by have:=H.hep;have:=(h.s.data.toList.getD 5 0).toNat_lt;have:=(h.s.data.toList.getD 6 0).toNat_lt;omega
 have hsz8:h.sz<65536:=by have:=H.hsz;have:=(h.s.data.toList.getD 7 0).toNat_lt;have:=(h.s.data.toList.getD 8 0).toNat_lt;omega
 have HEP:=hid (fun w' hT=>epochs_no (h.s.extract 10 (10+h.q)) h.m h.t h.l h.sz h.ep c w' hE (by omega) (by omega) hT)
 rw [ets] at HRD
 rw [ets] at *
 generalize (T.extract 1 T.size).extract 10 (10+h.q)=nm at *
 generalize (T.extract 1 T.size).extract (10+h.q) (T.extract 1 T.size).size=R at *
 generalize h.m=mo at *
 generalize h.t=t at *
 generalize h.l=l at *
 generalize h.sz=z at *
 generalize h.ep=ep at *
 generalize h.st=sn at *
 generalize h.no=so at *
 have h1T:(1:Int)≤(T.size:Int):=by omega
 have hTne:¬T=ByteArray.empty:=fun e=>by rw [e] at hTs;simp at hTs
 subst hstn hnon
 have HT:=hid hT
 clear H hT hE
 go_enter Tryz.func107,Tryz.ntmps107
 go_wp2_with fail
 refine (HRD.out _).mono ?_
 rintro e w2 ⟨rfl,hb2⟩
 have hbw1:=(Below.refl w.heap.size w).alloc (Nat.le_refl _) (.cells #[.string ⟨#[]⟩,.int .i64 0,.int .i64 0,.int .i64 0,.int .i64 0,.int .i64 0,.slice none 0 0,.slice none 0 0] 127)
 have HA2:=(hb2.block w.heap.size (by simp)).trans (alloc_at w (.cells #[.string ⟨#[]⟩,.int .i64 0,.int .i64 0,.int .i64 0,.int .i64 0,.int .i64 0,.slice none 0 0,.slice none 0 0] 127))
 have hb02:Below w.heap.size w w2:=hbw1.trans (hb2.mono (by simp))
 have hA2:w.heap.size<w2.heap.size:=cells_lt HA2
 have hba3:=(Below.refl w2.heap.size w2).alloc (Nat.le_refl _) (.cells #[.string nm,.int .i64 mo,.int .i64 t,.int .i64 l,.int .i64 z,.int .i64 ep,.int .i64 sn,.int .i64 so] 134)
 have HL3:=alloc_at w2 (.cells #[.string nm,.int .i64 mo,.int .i64 t,.int .i64 l,.int .i64 z,.int .i64 ep,.int .i64 sn,.int .i64 so] 134)
 have HA3:=(hba3.block _ hA2).trans HA2
 have hb03:=hb02.trans (hba3.mono hb02.size)
 go_wp2_with fail
 generalize w2.alloc (.cells #[.string nm,.int .i64 mo,.int .i64 t,.int .i64 l,.int .i64 z,.int .i64 ep,.int .i64 sn,.int .i64 so] 134)=w3 at *
 refine (HEP.out w3 (HT.out.keeps hb03 (Nat.le_refl _))).mono ?_
 rintro e w4 ⟨ev,k,rfl,hch4,hb4⟩
 have HAF:=(hb4.block _ (cells_lt HA3)).trans HA3
 have HCH:=hid hch4
 obtain ⟨te,ve,rfl⟩:=hch4.shape
 have HB:=hid (hb03.trans (hb4.mono hb03.size))
 clear hch4 hb4 hb2 HA2 hb02 HL3 HA3
 have HAZ:=hid HAF
 clear HAF
 go_wp2_with (first | (refine wpList_store_same rfl 127 (.tmp 6) (.tmp 51) rfl w.heap.size #[.string ⟨#[]⟩,.int .i64 0,.int .i64 0,.int .i64 0,.int .i64 0,.int .i64 0,.slice none 0 0,.slice none 0 0] rfl rfl 127 HAZ.out Tryz.cellsRec (by simp [Value.oneCell']) ?_)|fail)
 have x0:w4.cell? ⟨w.heap.size,0,none⟩=some (.string ⟨#[]⟩):=by rw [cells_at HAZ.out];rfl
 have x1:w4.cell? ⟨w.heap.size,1,none⟩=some (.int .i64 0):=by rw [cells_at HAZ.out];rfl
 have x2:w4.cell? ⟨w.heap.size,2,none⟩=some (.int .i64 0):=by rw [cells_at HAZ.out];rfl
 have x3:w4.cell? ⟨w.heap.size,3,none⟩=some (.int .i64 0):=by rw [cells_at HAZ.out];rfl
 have x4:w4.cell? ⟨w.heap.size,4,none⟩=some (.int .i64 0):=by rw [cells_at HAZ.out];rfl
 have x5:w4.cell? ⟨w.heap.size,5,none⟩=some (.int .i64 0):=by rw [cells_at HAZ.out];rfl
 have x6:w4.cell? ⟨w.heap.size,6,none⟩=some (.slice none 0 0):=by rw [cells_at HAZ.out];rfl
 have x7:w4.cell? ⟨w.heap.size,7,none⟩=some (.slice none 0 0):=by rw [cells_at HAZ.out];rfl
 refine bodyPost_ret (v:=.tuple #[.agg #[.string ⟨#[]⟩,.int .i64 0,.int .i64 0,.int .i64 0,.int .i64 0,.int .i64 0,.slice none 0 0,.slice none 0 0],.string ⟨#[]⟩,.iface te ve]) ?_ rfl ⟨_,_,1,by omega,rfl,HCH.out,HB.out⟩
 simp [results,Tryz.results107,go_sem,x0,x1,x2,x3,x4,x5,x6,x7]
set_option maxRecDepth 100000 in
set_option maxHeartbeats 4000000 in
theorem iread_no4 (T:ByteArray) (c:Nat) (h:Hd8) (n no:Nat) (w:World) (H:HeadIs T c h) (hT:Tab w) (hstn:h.st=n) (hnon:h.no=no) (hE:EpochsOk h.m h.ep c)
  (hL:∀w',Tab w'→Calls Tryz.prog 114 #[.agg #[.string (h.s.extract 10 (10+h.q)),.int .i64 h.m,.int .i64 h.t,.int .i64 h.l,.int .i64 h.sz,.int .i64 h.ep,.int .i64 h.st,.int .i64 h.no]] w' fun e w''=>∃x ev k d,d≤2∧e=.returned (.tuple #[.int .i64 x,ev])∧Chain w'' k d ev∧Below w'.heap.size w' w'') :
  Calls Tryz.prog 107 #[.string T,.int .i64 n,.int .i64 no] w fun e w'=>INo w e w':=by
 have hTs:11≤T.size:=by have h1:=H.h10;rw [H.hs] at h1;simp at h1;omega
 have HRD:=hid (fun w'=>H.read w')
 have hTb:=H.big
 have hcc:=H.c1
 have t0:(T[0]'(by omega)).toNat=c:=by rw [←byte_at T 0 (by omega),H.c0];simp;omega
 have wc:wrap64 (c:Int)=(c:Int):=by unfold wrap64;omega
 have ets:h.s=T.extract 1 T.size:=H.hs
 have hsq:(h.s.extract 10 (10+h.q)).size=h.q:=by have:=H.hfit;simp;omega
 have hst8:h.st<256:=by have:=H.hst;have:=(h.s.data.toList.getD 3 0).toNat_lt;omega
 have hno8:h.no<256:=by have:=H.hno;have:=(h.s.data.toList.getD 4 0).toNat_lt;omega
 have hm8:h.m<256:=by have:=H.hm;have:=(h.s.data.toList.getD 0 0).toNat_lt;omega
 have ht8:h.t<256:=by have:=H.ht;have:=(h.s.data.toList.getD 1 0).toNat_lt;omega
 have hl8:h.l<256:=by have:=H.hl;have:=(h.s.data.toList.getD 2 0).toNat_lt;omega
 have hep8:h.ep<65536:=by have:=H.hep;have:=(h.s.data.toList.getD 5 0).toNat_lt;have:=(h.s.data.toList.getD 6 0).toNat_lt;omega
 have hsz8:h.sz<65536:=by have:=H.hsz;have:=(h.s.data.toList.getD 7 0).toNat_lt;have:=(h.s.data.toList.getD 8 0).toNat_lt;omega
 have HEP:=hid (fun w'=>epochs_ok (h.s.extract 10 (10+h.q)) h.m h.t h.l h.sz h.ep c w' hE)
 have HLL:=hid hL
 rw [ets] at HLL
 rw [ets] at HRD
 rw [ets] at *
 generalize (T.extract 1 T.size).extract 10 (10+h.q)=nm at *
 generalize (T.extract 1 T.size).extract (10+h.q) (T.extract 1 T.size).size=R at *
 generalize h.m=mo at *
 generalize h.t=t at *
 generalize h.l=l at *
 generalize h.sz=z at *
 generalize h.ep=ep at *
 generalize h.st=sn at *
 generalize h.no=so at *
 have h1T:(1:Int)≤(T.size:Int):=by omega
 have hTne:¬T=ByteArray.empty:=fun e=>by rw [e] at hTs;simp at hTs
 subst hstn hnon
 have HT:=hid hT
 clear H hT hE hL
 go_enter Tryz.func107,Tryz.ntmps107
 go_wp2_with fail
 refine (HRD.out _).mono ?_
 rintro e w2 ⟨rfl,hb2⟩
 have hbw1:=(Below.refl w.heap.size w).alloc (Nat.le_refl _) (.cells #[.string ⟨#[]⟩,.int .i64 0,.int .i64 0,.int .i64 0,.int .i64 0,.int .i64 0,.slice none 0 0,.slice none 0 0] 127)
 have HA2:=(hb2.block w.heap.size (by simp)).trans (alloc_at w (.cells #[.string ⟨#[]⟩,.int .i64 0,.int .i64 0,.int .i64 0,.int .i64 0,.int .i64 0,.slice none 0 0,.slice none 0 0] 127))
 have hb02:Below w.heap.size w w2:=hbw1.trans (hb2.mono (by simp))
 have hA2:w.heap.size<w2.heap.size:=cells_lt HA2
 have hba3:=(Below.refl w2.heap.size w2).alloc (Nat.le_refl _) (.cells #[.string nm,.int .i64 mo,.int .i64 t,.int .i64 l,.int .i64 z,.int .i64 ep,.int .i64 sn,.int .i64 so] 134)
 have HL3:=alloc_at w2 (.cells #[.string nm,.int .i64 mo,.int .i64 t,.int .i64 l,.int .i64 z,.int .i64 ep,.int .i64 sn,.int .i64 so] 134)
 have HA3:=(hba3.block _ hA2).trans HA2
 have hb03:=hb02.trans (hba3.mono hb02.size)
 go_wp2_with fail
 generalize w2.alloc (.cells #[.string nm,.int .i64 mo,.int .i64 t,.int .i64 l,.int .i64 z,.int .i64 ep,.int .i64 sn,.int .i64 so] 134)=w3 at *
 refine (HEP.out w3).mono ?_
 rintro e w4 ⟨rfl,hb4⟩
 have HL4:=(hb4.block _ (cells_lt HL3)).trans HL3
 have HA4:=(hb4.block _ (cells_lt HA3)).trans HA3
 have hb04:=hb03.trans (hb4.mono hb03.size)
 have y0:w4.cell? ⟨w2.heap.size,0,none⟩=some (.string nm):=by rw [cells_at HL4];rfl
 have y1:w4.cell? ⟨w2.heap.size,1,none⟩=some (.int .i64 mo):=by rw [cells_at HL4];rfl
 have y2:w4.cell? ⟨w2.heap.size,2,none⟩=some (.int .i64 t):=by rw [cells_at HL4];rfl
 have y3:w4.cell? ⟨w2.heap.size,3,none⟩=some (.int .i64 l):=by rw [cells_at HL4];rfl
 have y4:w4.cell? ⟨w2.heap.size,4,none⟩=some (.int .i64 z):=by rw [cells_at HL4];rfl
 have y5:w4.cell? ⟨w2.heap.size,5,none⟩=some (.int .i64 ep):=by rw [cells_at HL4];rfl
 have y6:w4.cell? ⟨w2.heap.size,6,none⟩=some (.int .i64 sn):=by rw [cells_at HL4];rfl
 have y7:w4.cell? ⟨w2.heap.size,7,none⟩=some (.int .i64 so):=by rw [cells_at HL4];rfl
 have HHA:=hid HA4
 clear HL3 HA3 HA2 HL4 HA4
 go_wp2_with fail
 refine (HLL.out w4 (HT.out.keeps hb04 (Nat.le_refl _))).mono ?_
 rintro e w5 ⟨x,ev,k,d,hd,rfl,hch5,hb5⟩
 have HAF:=(hb5.block _ (cells_lt HHA.out)).trans HHA.out
 have HCH:=hid hch5
 obtain ⟨te,ve,rfl⟩:=hch5.shape
 have HB:=hid (hb04.trans (hb5.mono hb04.size))
 clear hch5 hb5 hb4 hb2 hb02 y0 y1 y2 y3 y4 y5 y6 y7
 have HAZ:=hid HAF
 clear HAF
 go_wp2_with (first | (refine wpList_store_same rfl 127 (.tmp 6) (.tmp 60) rfl w.heap.size #[.string ⟨#[]⟩,.int .i64 0,.int .i64 0,.int .i64 0,.int .i64 0,.int .i64 0,.slice none 0 0,.slice none 0 0] rfl rfl 127 HAZ.out Tryz.cellsRec (by simp [Value.oneCell']) ?_)|fail)
 have x0:w5.cell? ⟨w.heap.size,0,none⟩=some (.string ⟨#[]⟩):=by rw [cells_at HAZ.out];rfl
 have x1:w5.cell? ⟨w.heap.size,1,none⟩=some (.int .i64 0):=by rw [cells_at HAZ.out];rfl
 have x2:w5.cell? ⟨w.heap.size,2,none⟩=some (.int .i64 0):=by rw [cells_at HAZ.out];rfl
 have x3:w5.cell? ⟨w.heap.size,3,none⟩=some (.int .i64 0):=by rw [cells_at HAZ.out];rfl
 have x4:w5.cell? ⟨w.heap.size,4,none⟩=some (.int .i64 0):=by rw [cells_at HAZ.out];rfl
 have x5:w5.cell? ⟨w.heap.size,5,none⟩=some (.int .i64 0):=by rw [cells_at HAZ.out];rfl
 have x6:w5.cell? ⟨w.heap.size,6,none⟩=some (.slice none 0 0):=by rw [cells_at HAZ.out];rfl
 have x7:w5.cell? ⟨w.heap.size,7,none⟩=some (.slice none 0 0):=by rw [cells_at HAZ.out];rfl
 refine bodyPost_ret (v:=.tuple #[.agg #[.string ⟨#[]⟩,.int .i64 0,.int .i64 0,.int .i64 0,.int .i64 0,.int .i64 0,.slice none 0 0,.slice none 0 0],.string ⟨#[]⟩,.iface te ve]) ?_ rfl ⟨_,_,d,by omega,rfl,HCH.out,HB.out⟩
 simp [results,Tryz.results107,go_sem,x0,x1,x2,x3,x4,x5,x6,x7]
set_option maxRecDepth 100000 in
set_option maxHeartbeats 4000000 in
theorem iread_no5 (T:ByteArray) (c:Nat) (h:Hd8) (n no:Nat) (w:World) (H:HeadIs T c h) (hT:Tab w) (hstn:h.st=n) (hnon:h.no=no) (hE:EpochsOk h.m h.ep c) (hq1:1≤h.q) (hq12:h.q≤12) (hpl:IsPlan h.m h.t h.l n) (hz:h.sz≤60) (len:Nat) (hlen:len=10+h.q+Cof.ngroups h.m h.t h.l h.sz+8) (hsh:(h.s.extract (10+h.q) h.s.size).size<c*len) :
  Calls Tryz.prog 107 #[.string T,.int .i64 n,.int .i64 no] w fun e w'=>INo w e w':=by
 have hTs:11≤T.size:=by have h1:=H.h10;rw [H.hs] at h1;simp at h1;omega
 have HRD:=hid (fun w'=>H.read w')
 have hTb:=H.big
 have hcc:=H.c1
 have t0:(T[0]'(by omega)).toNat=c:=by rw [←byte_at T 0 (by omega),H.c0];simp;omega
 have wc:wrap64 (c:Int)=(c:Int):=by unfold wrap64;omega
 have ets:h.s=T.extract 1 T.size:=H.hs
 have hsq:(h.s.extract 10 (10+h.q)).size=h.q:=by have:=H.hfit;simp;omega
 have hst8:h.st<256:=by have:=H.hst;have:=(h.s.data.toList.getD 3 0).toNat_lt;omega
 have hno8:h.no<256:=by have:=H.hno;have:=(h.s.data.toList.getD 4 0).toNat_lt;omega
 have hm8:h.m<256:=by have:=H.hm;have:=(h.s.data.toList.getD 0 0).toNat_lt;omega
 have ht8:h.t<256:=by have:=H.ht;have:=(h.s.data.toList.getD 1 0).toNat_lt;omega
 have hl8:h.l<256:=by have:=H.hl;have:=(h.s.data.toList.getD 2 0).toNat_lt;omega
 have hep8:h.ep<65536:=by have:=H.hep;have:=(h.s.data.toList.getD 5 0).toNat_lt;have:=(h.s.data.toList.getD 6 0).toNat_lt;omega
 have hsz8:h.sz<65536:=by have:=H.hsz;have:=(h.s.data.toList.getD 7 0).toNat_lt;have:=(h.s.data.toList.getD 8 0).toNat_lt;omega
 have HEP:=hid (fun w'=>epochs_ok (h.s.extract 10 (10+h.q)) h.m h.t h.l h.sz h.ep c w' hE)
 have hng:=ngroups_le hpl h.sz hz
 have HLL:=hid (fun w'=>llen_ok h.m h.t h.l n no h.ep h.sz (h.s.extract 10 (10+h.q)) w' hpl hz (by rw [hsq];exact hq1) (by rw [hsq];exact hq12) hng)
 have eln:(10+((h.s.extract 10 (10+h.q)).size:Int)+((Cof.ngroups h.m h.t h.l h.sz:Nat):Int)+8)=(len:Int):=by rw [hsq,hlen];omega
 rw [eln] at HLL
 have hlen90:len≤90:=by omega
 have hRb:(h.s.extract (10+h.q) h.s.size).size≤9223372036854775807:=by rw [ets];simp;omega
 have hc2:c=1∨c=2:=hE.1
 have hm90:c*len≤180:=by rcases hc2 with rfl | rfl<;>omega
 obtain ⟨m,hm⟩:∃m,m=c*len:=⟨_,rfl⟩
 rw [←hm] at hm90 hsh
 have hm':(c:Int)*(len:Int)=(m:Int):=by rw [hm];simp
 rw [hstn,hnon] at HRD
 rw [ets] at HEP HLL hsh hRb
 rw [ets] at HRD
 rw [ets] at *
 generalize (T.extract 1 T.size).extract 10 (10+h.q)=nm at *
 generalize (T.extract 1 T.size).extract (10+h.q) (T.extract 1 T.size).size=R at *
 generalize h.m=mo at *
 generalize h.t=t at *
 generalize h.l=l at *
 generalize h.sz=z at *
 generalize h.ep=ep at *
 generalize h.st=sn at *
 generalize h.no=so at *
 have h1T:(1:Int)≤(T.size:Int):=by omega
 have hTne:¬T=ByteArray.empty:=fun e=>by rw [e] at hTs;simp at hTs
 have HT:=hid hT
 have hRm:(R.size:Int)<(m:Int):=by omega
 have hIR:I64 (R.size:Int):=by unfold I64;omega
 clear H hT hE hpl hz hlen hng hc2 hq1 hq12 hsq eln hsh hm hstn hnon
 go_enter Tryz.func107,Tryz.ntmps107
 go_wp2_with fail
 refine (HRD.out _).mono ?_
 rintro e w2 ⟨rfl,hb2⟩
 have hbw1:=(Below.refl w.heap.size w).alloc (Nat.le_refl _) (.cells #[.string ⟨#[]⟩,.int .i64 0,.int .i64 0,.int .i64 0,.int .i64 0,.int .i64 0,.slice none 0 0,.slice none 0 0] 127)
 have HA2:=(hb2.block w.heap.size (by simp)).trans (alloc_at w (.cells #[.string ⟨#[]⟩,.int .i64 0,.int .i64 0,.int .i64 0,.int .i64 0,.int .i64 0,.slice none 0 0,.slice none 0 0] 127))
 have hb02:Below w.heap.size w w2:=hbw1.trans (hb2.mono (by simp))
 have hA2:w.heap.size<w2.heap.size:=cells_lt HA2
 have hba3:=(Below.refl w2.heap.size w2).alloc (Nat.le_refl _) (.cells #[.string nm,.int .i64 mo,.int .i64 t,.int .i64 l,.int .i64 z,.int .i64 ep,.int .i64 n,.int .i64 no] 134)
 have HL3:=alloc_at w2 (.cells #[.string nm,.int .i64 mo,.int .i64 t,.int .i64 l,.int .i64 z,.int .i64 ep,.int .i64 n,.int .i64 no] 134)
 have HA3:=(hba3.block _ hA2).trans HA2
 have hb03:=hb02.trans (hba3.mono hb02.size)
 go_wp2_with fail
 generalize w2.alloc (.cells #[.string nm,.int .i64 mo,.int .i64 t,.int .i64 l,.int .i64 z,.int .i64 ep,.int .i64 n,.int .i64 no] 134)=w3 at *
 refine (HEP.out w3).mono ?_
 rintro e w4 ⟨rfl,hb4⟩
 have HL4:=(hb4.block _ (cells_lt HL3)).trans HL3
 have HA4:=(hb4.block _ (cells_lt HA3)).trans HA3
 have hb04:=hb03.trans (hb4.mono hb03.size)
 have y0:w4.cell? ⟨w2.heap.size,0,none⟩=some (.string nm):=by rw [cells_at HL4];rfl
 have y1:w4.cell? ⟨w2.heap.size,1,none⟩=some (.int .i64 mo):=by rw [cells_at HL4];rfl
 have y2:w4.cell? ⟨w2.heap.size,2,none⟩=some (.int .i64 t):=by rw [cells_at HL4];rfl
 have y3:w4.cell? ⟨w2.heap.size,3,none⟩=some (.int .i64 l):=by rw [cells_at HL4];rfl
 have y4:w4.cell? ⟨w2.heap.size,4,none⟩=some (.int .i64 z):=by rw [cells_at HL4];rfl
 have y5:w4.cell? ⟨w2.heap.size,5,none⟩=some (.int .i64 ep):=by rw [cells_at HL4];rfl
 have y6:w4.cell? ⟨w2.heap.size,6,none⟩=some (.int .i64 n):=by rw [cells_at HL4];rfl
 have y7:w4.cell? ⟨w2.heap.size,7,none⟩=some (.int .i64 no):=by rw [cells_at HL4];rfl
 have HHA:=hid HA4
 clear HL3 HA3 HA2 HL4 HA4
 go_wp2_with fail
 refine (HLL.out w4).mono ?_
 rintro e w5 ⟨rfl,hb5⟩
 have HA5:=hid ((hb5.block _ (cells_lt HHA.out)).trans HHA.out)
 have hb05:=hb04.trans (hb5.mono hb04.size)
 clear hb5 hb4 hb2 hb02 y0 y1 y2 y3 y4 y5 y6 y7 HHA
 go_wp2_with fail
 refine (atCount_any (R.size:Int) _ _ 12 0 w5 hIR (by decide) (HT.out.keeps hb05 (Nat.le_refl _)) .hit).mono ?_
 rintro e w6 ⟨e6,rfl,hch6,hb6⟩
 have HAF:=(hb6.block _ (cells_lt HA5.out)).trans HA5.out
 have HCH:=hid hch6
 obtain ⟨te,ve,rfl⟩:=hch6.shape
 have HB:=hid (hb05.trans (hb6.mono hb05.size))
 clear hch6 hb6 HA5
 have HAZ:=hid HAF
 clear HAF
 go_wp2_with (first | (refine wpList_store_same rfl 127 (.tmp 6) (.tmp 68) rfl w.heap.size #[.string ⟨#[]⟩,.int .i64 0,.int .i64 0,.int .i64 0,.int .i64 0,.int .i64 0,.slice none 0 0,.slice none 0 0] rfl rfl 127 HAZ.out Tryz.cellsRec (by simp [Value.oneCell']) ?_)|fail)
 have x0:w6.cell? ⟨w.heap.size,0,none⟩=some (.string ⟨#[]⟩):=by rw [cells_at HAZ.out];rfl
 have x1:w6.cell? ⟨w.heap.size,1,none⟩=some (.int .i64 0):=by rw [cells_at HAZ.out];rfl
 have x2:w6.cell? ⟨w.heap.size,2,none⟩=some (.int .i64 0):=by rw [cells_at HAZ.out];rfl
 have x3:w6.cell? ⟨w.heap.size,3,none⟩=some (.int .i64 0):=by rw [cells_at HAZ.out];rfl
 have x4:w6.cell? ⟨w.heap.size,4,none⟩=some (.int .i64 0):=by rw [cells_at HAZ.out];rfl
 have x5:w6.cell? ⟨w.heap.size,5,none⟩=some (.int .i64 0):=by rw [cells_at HAZ.out];rfl
 have x6:w6.cell? ⟨w.heap.size,6,none⟩=some (.slice none 0 0):=by rw [cells_at HAZ.out];rfl
 have x7:w6.cell? ⟨w.heap.size,7,none⟩=some (.slice none 0 0):=by rw [cells_at HAZ.out];rfl
 refine bodyPost_ret (v:=.tuple #[.agg #[.string ⟨#[]⟩,.int .i64 0,.int .i64 0,.int .i64 0,.int .i64 0,.int .i64 0,.slice none 0 0,.slice none 0 0],.string ⟨#[]⟩,.iface te ve]) ?_ rfl ⟨_,_,1,by omega,rfl,HCH.out,HB.out⟩
 simp [results,Tryz.results107,go_sem,x0,x1,x2,x3,x4,x5,x6,x7]
end Go.Proofs.YtcegdgmbponapabGreatDoor
namespace Go.Proofs.YtcegdgmbponapabGreatDoor
open Go.RowKit
def hdOf (T:ByteArray):Hd8 :=
 ⟨T.extract 1 T.size,((T.extract 1 T.size).data.toList.getD 9 0).toNat,((T.extract 1 T.size).data.toList.getD 0 0).toNat,((T.extract 1 T.size).data.toList.getD 1 0).toNat,((T.extract 1 T.size).data.toList.getD 2 0).toNat,
  ((T.extract 1 T.size).data.toList.getD 7 0).toNat*256+((T.extract 1 T.size).data.toList.getD 8 0).toNat,((T.extract 1 T.size).data.toList.getD 5 0).toNat*256+((T.extract 1 T.size).data.toList.getD 6 0).toNat,((T.extract 1 T.size).data.toList.getD 3 0).toNat,((T.extract 1 T.size).data.toList.getD 4 0).toNat⟩
def ctN (T:ByteArray):Nat:=(T.data.toList.getD 0 0).toNat
def behindOf (T:ByteArray):ByteArray:=(hdOf T).s.extract (10+(hdOf T).q) (hdOf T).s.size
def lenOf (T:ByteArray):Nat:=10+(hdOf T).q+Cof.ngroups (hdOf T).m (hdOf T).t (hdOf T).l (hdOf T).sz+8
def restOf (T:ByteArray):ByteArray:=(behindOf T).extract (ctN T*lenOf T) (behindOf T).size
def obOf (T:ByteArray):Ob:=⟨(hdOf T).s.extract 10 (10+(hdOf T).q),(hdOf T).m,(hdOf T).t,(hdOf T).l,(hdOf T).sz,(hdOf T).ep⟩
structure ReadOk (n no:Nat) (T:ByteArray):Prop where
 h10:10≤(hdOf T).s.size
 fit:10+(hdOf T).q≤(hdOf T).s.size
 st:(hdOf T).st=n
 no:(hdOf T).no=no
 ep:EpochsOk (hdOf T).m (hdOf T).ep (ctN T)
 q1:1≤(hdOf T).q
 q12:(hdOf T).q≤12
 pl:IsPlan (hdOf T).m (hdOf T).t (hdOf T).l n
 sz:(hdOf T).sz≤60
 long:ctN T*lenOf T≤(behindOf T).size
structure Ct where
 ob:Ob
 x:List UInt8
 y:Option (List UInt8)
def ctOf (T:ByteArray):Ct:=⟨obOf T,((behindOf T).extract 0 (lenOf T)).data.toList,if ctN T=2 then some ((behindOf T).extract (lenOf T) (2*lenOf T)).data.toList else none⟩
def RecV.ct (X:Nat→List UInt8) (r:RecV):Ct:=⟨r.ob,r.x X,if r.na=none then none else some (r.y X)⟩
theorem HeadIs.of {T:ByteArray} (hb:T.size≤9223372036854775807) (h10:10≤(hdOf T).s.size) (hfit:10+(hdOf T).q≤(hdOf T).s.size):HeadIs T (ctN T) (hdOf T) :=
 ⟨hb,by unfold ctN;simp,(T.data.toList.getD 0 0).toNat_lt,rfl,h10,rfl,hfit,rfl,rfl,rfl,rfl,rfl,rfl,rfl⟩
set_option maxHeartbeats 2000000 in
theorem iread_any (T:ByteArray) (n no:Nat) (w:World) (h1:1≤T.size) (hbig:T.size≤9223372036854775807) (hn1:1≤n) (hn8:n≤8) (hT:Tab w) :
  Calls Tryz.prog 107 #[.string T,.int .i64 n,.int .i64 no] w fun e w' =>
   (ReadOk n no T∧∃(r:RecV) (X:Nat→List UInt8),e=.returned (.tuple #[r.val,.string (restOf T),.nilIface])∧RecGood w' w.heap.size n X r∧r.ct X=ctOf T∧Below w.heap.size w w')∨(¬ReadOk n no T∧INo w e w'):=by
 have no_:(Calls Tryz.prog 107 #[.string T,.int .i64 n,.int .i64 no] w fun e w'=>INo w e w')→¬ReadOk n no T→Calls Tryz.prog 107 #[.string T,.int .i64 n,.int .i64 no] w fun e w' =>
   (ReadOk n no T∧∃(r:RecV) (X:Nat→List UInt8),e=.returned (.tuple #[r.val,.string (restOf T),.nilIface])∧RecGood w' w.heap.size n X r∧r.ct X=ctOf T∧Below w.heap.size w w')∨(¬ReadOk n no T∧INo w e w'):=fun hc hno=>hc.mono fun _ _ h=>.inr ⟨hno,h⟩
 have hs1:(hdOf T).s=T.extract 1 T.size:=rfl
 by_cases h10:10≤(hdOf T).s.size
 ·by_cases hfit:10+(hdOf T).q≤(hdOf T).s.size
  ·have H:=HeadIs.of hbig h10 hfit
   have hc8:=H.c1
   have hm8:(hdOf T).m<256:=by have:=H.hm;have:=((hdOf T).s.data.toList.getD 0 0).toNat_lt;omega
   have ht8:(hdOf T).t<256:=by have:=H.ht;have:=((hdOf T).s.data.toList.getD 1 0).toNat_lt;omega
   have hl8:(hdOf T).l<256:=by have:=H.hl;have:=((hdOf T).s.data.toList.getD 2 0).toNat_lt;omega
   have hz8:(hdOf T).sz<65536:=by have:=H.hsz;have:=((hdOf T).s.data.toList.getD 7 0).toNat_lt;have:=((hdOf T).s.data.toList.getD 8 0).toNat_lt;omega
   have hsq:((hdOf T).s.extract 10 (10+(hdOf T).q)).size=(hdOf T).q:=by simp;omega
   by_cases hst:(hdOf T).st=n
   ·by_cases hno:(hdOf T).no=no
    ·by_cases hE:EpochsOk (hdOf T).m (hdOf T).ep (ctN T)
     ·by_cases hq:1≤(hdOf T).q∧(hdOf T).q≤12
      ·by_cases hpl:IsPlan (hdOf T).m (hdOf T).t (hdOf T).l n
       ·by_cases hz:(hdOf T).sz≤60
        ·by_cases hlong:ctN T*lenOf T≤(behindOf T).size
         ·have hok:ReadOk n no T:=⟨h10,hfit,hst,hno,hE,hq.1,hq.2,hpl,hz,hlong⟩
          have hlen0:0<lenOf T:=by unfold lenOf;omega
          have hm1:(hdOf T).m=1→(hdOf T).ep=0∧ctN T=1:=fun hm=>by
           obtain ⟨a,b,c⟩:=hE
           by_cases h0:0<(hdOf T).ep+ctN T-1
           ·exact absurd hm (c h0)
           ·omega
          rcases hE.1 with hc | hc
          ·rw [hc] at H hE
           have hl':1*lenOf T≤(behindOf T).size:=by rw [←hc];exact hlong
           refine (iread_ok1 T (hdOf T) n no (lenOf T) (1*lenOf T) (behindOf T) w H hst hno hE hq.1 hq.2 hpl hz rfl rfl rfl hl').mono ?_
           rintro e w' ⟨g,cap,rfl,hg,hcap,hFB,hb⟩
           refine .inl ⟨hok,⟨(hdOf T).s.extract 10 (10+(hdOf T).q),(hdOf T).m,(hdOf T).t,(hdOf T).l,(hdOf T).sz,(hdOf T).ep,some ⟨g,0,none⟩,lenOf T,cap,none,0,0⟩,fun _=>((behindOf T).extract 0 (lenOf T)).data.toList,?_,?_,?_,hb⟩
           ·unfold RecV.val restOf
            rw [hc]
           ·have hxl:((behindOf T).extract 0 (lenOf T)).data.toList.length=lenOf T:=by
             rw [Array.length_toList]
             show ((behindOf T).extract 0 (lenOf T)).size=lenOf T
             simp;omega
            exact ⟨hpl,hz,by have:=hE.2.1;show (hdOf T).ep≤100;omega,fun hm=>(hm1 hm).1,by show 1≤ByteArray.size _;rw [hsq];exact hq.1,by show ByteArray.size _≤12;rw [hsq];exact hq.2,by show lenOf T=10+ByteArray.size _+_+8;rw [hsq];rfl,Bytes.of_FB hFB hg hxl hcap,.inl ⟨rfl,rfl,rfl⟩⟩
           ·unfold RecV.ct ctOf
            rw [hc]
            rfl
          ·rw [hc] at H hE
           have hl':2*lenOf T≤(behindOf T).size:=by rw [←hc];exact hlong
           refine (iread_ok2 T (hdOf T) n no (lenOf T) (2*lenOf T) (behindOf T) w H hst hno hE hq.1 hq.2 hpl hz rfl rfl rfl hl').mono ?_
           rintro e w' ⟨g,cap,g2,cap2,rfl,hg,hcap,hFB,hg2,hcap2,hFB2,hne,hb⟩
           have hxl:((behindOf T).extract 0 (lenOf T)).data.toList.length=lenOf T:=by
            rw [Array.length_toList]
            show ((behindOf T).extract 0 (lenOf T)).size=lenOf T
            simp;omega
           have hyl:((behindOf T).extract (lenOf T) (2*lenOf T)).data.toList.length=lenOf T:=by
            rw [Array.length_toList]
            show ((behindOf T).extract (lenOf T) (2*lenOf T)).size=lenOf T
            simp;omega
           have hgx:(fun b=>if b=g2 then ((behindOf T).extract (lenOf T) (2*lenOf T)).data.toList else ((behindOf T).extract 0 (lenOf T)).data.toList) g=((behindOf T).extract 0 (lenOf T)).data.toList:=if_neg (fun e=>hne e.symm)
           refine .inl ⟨hok,⟨(hdOf T).s.extract 10 (10+(hdOf T).q),(hdOf T).m,(hdOf T).t,(hdOf T).l,(hdOf T).sz,(hdOf T).ep,some ⟨g,0,none⟩,lenOf T,cap,some ⟨g2,0,none⟩,lenOf T,cap2⟩,fun b=>if b=g2 then ((behindOf T).extract (lenOf T) (2*lenOf T)).data.toList else ((behindOf T).extract 0 (lenOf T)).data.toList,?_,?_,?_,hb⟩
           ·unfold RecV.val restOf
            rw [hc]
           ·refine ⟨hpl,hz,by have:=hE.2.1;show (hdOf T).ep≤100;omega,fun hm=>(hm1 hm).1,by show 1≤ByteArray.size _;rw [hsq];exact hq.1,by show ByteArray.size _≤12;rw [hsq];exact hq.2,by show lenOf T=10+ByteArray.size _+_+8;rw [hsq];rfl,?_,.inr ⟨by simp,?_,?_,rfl,?_,hne⟩⟩
            ·show Bytes w' w.heap.size _ _ _ ((fun b=>if b=g2 then ((behindOf T).extract (lenOf T) (2*lenOf T)).data.toList else ((behindOf T).extract 0 (lenOf T)).data.toList) g)
             rw [hgx]
             exact Bytes.of_FB hFB hg hxl hcap
            ·rcases hpl.md with ⟨h,_⟩|⟨h,_⟩
             ·exact h
             ·have:=(hm1 h).2;omega
            ·have:=hE.2.1;show (hdOf T).ep<100;omega
            ·show Bytes w' w.heap.size _ _ _ ((fun b=>if b=g2 then ((behindOf T).extract (lenOf T) (2*lenOf T)).data.toList else ((behindOf T).extract 0 (lenOf T)).data.toList) g2)
             simp only [if_true]
             exact Bytes.of_FB hFB2 hg2 hyl hcap2
           ·unfold RecV.ct ctOf RecV.x RecV.y
            simp only [blkNo,hc,if_true]
            simp only [show ¬g=g2 from fun e=>hne e.symm,if_false,reduceCtorEq]
            rfl
         ·exact no_ (iread_no5 T (ctN T) (hdOf T) n no w H hT hst hno hE hq.1 hq.2 hpl hz (lenOf T) rfl (by unfold behindOf at hlong;omega)) (fun h=>hlong h.long)
        ·refine no_ (iread_no4 T (ctN T) (hdOf T) n no w H hT hst hno hE fun w' hT'=>?_) (fun h=>hz h.sz)
         rw [hst]
         refine (llen_no (hdOf T).m (hdOf T).t (hdOf T).l n (hdOf T).no (hdOf T).ep (hdOf T).sz 4 _ w' (by rw [hsq];exact hq.1) (by rw [hsq];exact hq.2) hT' fun w3 hT3=>layoutFor_big (hdOf T).m (hdOf T).t (hdOf T).l n (hdOf T).sz w3 hpl (by unfold I64;omega) (.inr (by omega)) hT3).mono ?_
         rintro e w'' ⟨x,ev,h2,h3,h4⟩
         exact ⟨x,ev,4,2,by omega,h2,h3,h4⟩
       ·refine no_ (iread_no4 T (ctN T) (hdOf T) n no w H hT hst hno hE fun w' hT'=>?_) (fun h=>hpl h.pl)
        rw [hst]
        refine (llen_no (hdOf T).m (hdOf T).t (hdOf T).l n (hdOf T).no (hdOf T).ep (hdOf T).sz 3 _ w' (by rw [hsq];exact hq.1) (by rw [hsq];exact hq.2) hT' fun w3 hT3=>layoutFor_noplan (hdOf T).m (hdOf T).t (hdOf T).l n (hdOf T).sz w3 (by unfold I64;omega) (by unfold I64;omega) (by unfold I64;omega) (by unfold I64;omega) (fun hf=>hpl ?_) hT3).mono ?_
        ·obtain ⟨_,_,a1,a2,a3,a4⟩:=hf
         exact ⟨hn1,hn8,by omega,by omega,by omega,by omega⟩
        ·rintro e w'' ⟨x,ev,h2,h3,h4⟩
         exact ⟨x,ev,3,2,by omega,h2,h3,h4⟩
      ·refine no_ (iread_no4 T (ctN T) (hdOf T) n no w H hT hst hno hE fun w' hT'=>?_) (fun h=>hq ⟨h.q1,h.q12⟩)
       refine (llen_name (hdOf T).m (hdOf T).t (hdOf T).l (hdOf T).st (hdOf T).no (hdOf T).ep (hdOf T).sz _ w' (by rw [hsq];omega) (by rw [hsq];unfold maxLen;have:=H.hq;have:=((hdOf T).s.data.toList.getD 9 0).toNat_lt;omega) hT').mono ?_
       rintro e w'' ⟨ev,h2,h3,h4⟩
       exact ⟨0,ev,2,1,by omega,h2,h3,h4⟩
     ·exact no_ (iread_no3 T (ctN T) (hdOf T) n no w H hT hst hno hE) (fun h=>hE h.ep)
    ·exact no_ (iread_no2 T (ctN T) (hdOf T) n no w H hT (.inr hno) hn8) (fun h=>hno h.no)
   ·exact no_ (iread_no2 T (ctN T) (hdOf T) n no w H hT (.inl hst) hn8) (fun h=>hst h.st)
  ·refine no_ (iread_no1 T (ctN T) n no w h1 hbig (by rw [←byte_at T 0 (by omega)];rfl) (.inr ⟨h10,?_⟩) hT) (fun h=>hfit h.fit)
   rw [←byte_at (T.extract 1 T.size) 9 (by rw [←hs1];omega)]
   show (hdOf T).s.size<10+(hdOf T).q
   omega
 ·exact no_ (iread_no1 T (ctN T) n no w h1 hbig (by rw [←byte_at T 0 (by omega)];rfl) (.inl (by rw [←hs1];omega)) hT) (fun h=>h10 h.h10)
def Parses (n no:Nat):Nat→ByteArray→ByteArray→List Ct→Prop
 | 0,T,_,L=>T.size=0∧L=[]
 | k+1,T,last,L=>(T.size=0∧L=[])∨(1≤T.size∧ReadOk n no T∧cmpB last (obOf T).name<0∧∃L',L=ctOf T :: L'∧Parses n no k (restOf T) (obOf T).name L')
theorem parses_step {n no k:Nat} {T last:ByteArray} (h1:1≤T.size) (hr:ReadOk n no T) (hl:cmpB last (obOf T).name<0) (L:List Ct):Parses n no (k+1) T last L↔∃L',L=ctOf T :: L'∧Parses n no k (restOf T) (obOf T).name L':=by
 constructor
 ·rintro (⟨h,_⟩|⟨_,_,_,h⟩)
  ·omega
  ·exact h
 ·exact fun h=>.inr ⟨h1,hr,hl,h⟩
theorem parses_full {n no:Nat} {T last:ByteArray} (h1:1≤T.size) (L:List Ct):¬Parses n no 0 T last L:=by
 rintro ⟨h,_⟩
 omega
theorem parses_not {n no k:Nat} {T last:ByteArray} (h1:1≤T.size) (hno:¬ReadOk n no T∨¬cmpB last (obOf T).name<0) (L:List Ct):¬Parses n no (k+1) T last L:=by
 rintro (⟨h,_⟩|⟨_,h2,h3,_⟩)
 ·omega
 ·exact hno.elim (fun h=>h h2) (fun h=>h h3)
theorem parses_end {n no k:Nat} {T last:ByteArray} (h0:T.size=0):Parses n no k T last []:=by
 cases k with
 | zero=>exact ⟨h0,rfl⟩
 | succ k=>exact .inl ⟨h0,rfl⟩
theorem rest_less {n no:Nat} {T:ByteArray} (h:ReadOk n no T):(restOf T).size<T.size:=by
 have h1:=h.h10
 unfold restOf behindOf
 have h2:(hdOf T).s.size≤T.size:=by show (T.extract 1 T.size).size≤_;simp
 simp
 omega
structure Got (w:World) (W n:Nat) (rs:List RecV) (X:Nat→List UInt8) (last:ByteArray):Prop where
 ok:∀r∈rs,RecGood w W n X r
 ap:∀r∈rs,∀q∈rs,∀b,b∈r.blks→b∈q.blks→r=q
 so:rs.Pairwise (fun a b=>cmpB a.name b.name<0)
 la:∀r∈rs,r.name=last∨cmpB r.name last<0
theorem Got.keeps {w w':World} {W n:Nat} {rs:List RecV} {X:Nat→List UInt8} {last:ByteArray} {own:Nat→Prop} (h:Got w W n rs X last) (hs:Spared own w w') (ho:∀r∈rs,∀b∈r.blks,¬own b):Got w' W n rs X last :=
 ⟨fun r hr=>(h.ok r hr).keeps hs (ho r hr) (fun _ _=>rfl),h.ap,h.so,h.la⟩
theorem Got.more {w w':World} {W n:Nat} {rs:List RecV} {X Y:Nat→List UInt8} {last:ByteArray} (h:Got w W n rs X last) (hb:Below w.heap.size w w') (hW:W≤w.heap.size) (r:RecV) (hr:RecGood w' w.heap.size n Y r) (hl:cmpB last r.name<0) :
  Got w' W n (rs++[r]) (fun b=>if b<w.heap.size then X b else Y b) r.name∧(rs++[r]).map (RecV.ct fun b=>if b<w.heap.size then X b else Y b)=rs.map (RecV.ct X)++[r.ct Y]:=by
 have hold:∀q∈rs,∀b∈q.blks,b<w.heap.size:=fun q hq b hb=>(h.ok q hq).lt hb
 have hnew:∀b∈r.blks,w.heap.size≤b:=fun b hb=>(hr.at hb).1
 have hs:Spared (fun _=>False) w w':=Spared.ofBelow hb (Nat.le_refl _)
 have hlt:∀q∈rs,cmpB q.name r.name<0:=fun q hq=>(h.la q hq).elim (fun e=>by rw [e];exact hl) (fun e=>cmpB_trans e hl)
 have gr:RecGood w' w.heap.size n (fun b=>if b<w.heap.size then X b else Y b) r:=hr.keeps (Spared.refl (fun _=>False) w') (fun _ _ h=>h) (fun b hb=>if_neg (by have:=hnew b hb;omega))
 have gr':RecGood w' W n (fun b=>if b<w.heap.size then X b else Y b) r:=⟨gr.plan,gr.z,gr.e,gr.m1,gr.n1,gr.n12,gr.sn,gr.own.mono hW,gr.nx.imp id (fun ⟨a,b,c,d,e,f⟩=>⟨a,b,c,d,e.mono hW,f⟩)⟩
 have gq:∀q∈rs,RecGood w' W n (fun b=>if b<w.heap.size then X b else Y b) q:=fun q hq=>(h.ok q hq).keeps hs (fun _ _ h=>h) (fun b hb=>if_pos (hold q hq b hb))
 refine ⟨⟨fun q hq=>?_,fun q hq p hp b hb1 hb2=>?_,?_,fun q hq=>?_⟩,?_⟩
 ·rcases List.mem_append.1 hq with hq | hq
  ·exact gq q hq
  ·rw [List.mem_singleton.1 hq];exact gr'
 ·rcases List.mem_append.1 hq with hq | hq
  ·rcases List.mem_append.1 hp with hp | hp
   ·exact h.ap q hq p hp b hb1 hb2
   ·rw [List.mem_singleton.1 hp] at hb2
    have:=hold q hq b hb1
    have:=hnew b hb2
    omega
  ·rw [List.mem_singleton.1 hq] at hb1
   rcases List.mem_append.1 hp with hp | hp
   ·have:=hold p hp b hb2
    have:=hnew b hb1
    omega
   ·rw [List.mem_singleton.1 hq,List.mem_singleton.1 hp]
 ·rw [List.pairwise_append]
  exact ⟨h.so,List.pairwise_singleton _ _,fun a ha b hb=>by rw [List.mem_singleton.1 hb];exact hlt a ha⟩
 ·rcases List.mem_append.1 hq with hq | hq
  ·exact .inr (hlt q hq)
  ·exact .inl (by rw [List.mem_singleton.1 hq])
 ·rw [List.map_append]
  congr 1
  ·refine List.map_congr_left fun q hq=>?_
   obtain ⟨g,hsa,hg,_⟩:=(h.ok q hq).sa
   unfold RecV.ct RecV.x RecV.y
   rw [hsa]
   have e1:(fun b=>if b<w.heap.size then X b else Y b) (blkNo (some (⟨g,0,none⟩:Addr)))=X (blkNo (some (⟨g,0,none⟩:Addr))):=if_pos (hold q hq g hg)
   rw [e1]
   cases hna:q.na with
   | none=>rfl
   | some a =>
    have e2:(fun b=>if b<w.heap.size then X b else Y b) (blkNo (some a))=X (blkNo (some a)):=if_pos (hold q hq a.block ((mem_blks q _).2 (.inr ⟨a,hna,rfl⟩)))
    rw [e2]
  ·rw [List.map_singleton]
   congr 1
   obtain ⟨g,hsa,hg,_⟩:=hr.sa
   unfold RecV.ct RecV.x RecV.y
   rw [hsa]
   have e1:(fun b=>if b<w.heap.size then X b else Y b) (blkNo (some (⟨g,0,none⟩:Addr)))=Y (blkNo (some (⟨g,0,none⟩:Addr))):=if_neg (by have:=hnew g hg;show ¬g<w.heap.size;omega)
   rw [e1]
   cases hna:r.na with
   | none=>rfl
   | some a =>
    have e2:(fun b=>if b<w.heap.size then X b else Y b) (blkNo (some a))=Y (blkNo (some a)):=if_neg (by have:=hnew a.block ((mem_blks r _).2 (.inr ⟨a,hna,rfl⟩));show ¬a.block<w.heap.size;omega)
    rw [e2]
theorem less_cmp:∀x y:List UInt8,Op.bytesLess x y=decide (Lib.compareBytes x y<0)
 | [],[]=>by simp [Op.bytesLess,Lib.compareBytes]
 | [],_ :: _=>by simp [Op.bytesLess,Lib.compareBytes]
 | _ :: _,[]=>by simp [Op.bytesLess,Lib.compareBytes]
 | a :: x,b :: y=>by
  have ih:=less_cmp x y
  unfold Op.bytesLess Lib.compareBytes
  by_cases h1:a<b
  ·have h2:¬a=b:=fun e=>by subst e;exact UInt8.lt_irrefl _ h1
   simp [h1]
  ·by_cases h2:b<a
   ·have h3:¬a=b:=fun e=>by subst e;exact UInt8.lt_irrefl _ h2
    simp [h1,h2,h3]
   ·have h3:a=b:=UInt8.le_antisymm (UInt8.not_lt.1 h2) (UInt8.not_lt.1 h1)
    subst h3
    simp [ih,UInt8.lt_irrefl]
theorem name_behind {nm last:ByteArray} (h:cmpB last nm<0):Op.bytesLess nm.toList last.toList=false∧(nm.toList == last.toList)=false:=by
 have hf:=cmpB_flip last nm
 refine ⟨?_,?_⟩
 ·rw [ByteArray.toList_eq,ByteArray.toList_eq,less_cmp]
  have:¬Lib.compareBytes nm.data.toList last.data.toList<0:=by show ¬cmpB nm last<0;omega
  simpa using this
 ·rw [bytes_beq]
  simp only [decide_eq_false_iff_not]
  intro e
  rw [e,cmpB_zero.2 rfl] at h
  omega
theorem name_not_behind {nm last:ByteArray} (h:¬cmpB last nm<0):(Op.bytesLess nm.toList last.toList || nm.toList == last.toList)=true:=by
 have hf:=cmpB_flip last nm
 rw [ByteArray.toList_eq,ByteArray.toList_eq,less_cmp]
 by_cases e:cmpB nm last<0
 ·have:Lib.compareBytes nm.data.toList last.data.toList<0:=e
  simp [this]
 ·have:cmpB nm last=0:=by omega
  rw [cmpB_zero.1 this]
  simp
end Go.Proofs.YtcegdgmbponapabGreatDoor