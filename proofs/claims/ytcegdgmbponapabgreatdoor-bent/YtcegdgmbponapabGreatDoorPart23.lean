/-
  What is held is got back, from the stores that are up and whose shards are good.
  cofferkeep.fresh.
  Pieces that noughts' pieces are added to; what a coffer keeps.
  Refresh of what is dispersed is refused; within.
-/
import Derived.Test.YtcegdgmbponapabGreatDoorPart22
namespace Go.Proofs.YtcegdgmbponapabGreatDoor
open Go.RowKit
attribute [local go_sem ↓] Go.wp_at_zero Go.wp_at_succ
def Judged (key mode t l n epoch size:Nat) (nm:ByteArray) (len:Nat) (down bad:Nat→Bool) (X P:Nat→List UInt8):Prop :=
 ∀i,i<n→down i=false→(bad i=false→Cof.Good key (Cof.head mode t l n i epoch size nm.data.toList) len (X i) (P i))∧(bad i=true→¬∃Q,Cof.Good key (Cof.head mode t l n i epoch size nm.data.toList) len (X i) Q)
set_option maxRecDepth 100000 in
theorem cget_no (C V d:Nat) (k:Int) (nm:ByteArray) (w:World) (h:Cf w C V) (hd:d≤10) (hE:ErrType w)
  (hv:Calls Tryz.prog 46 #[.pointer (some ⟨V,0,none⟩),.string nm] w fun e w'=>∃ev,e=.returned (.tuple #[.slice none 0 0,ev])∧Chain w' k d ev∧Below w.heap.size w w') :
  Calls Tryz.prog 23 #[.pointer (some ⟨C,0,none⟩),.string nm] w fun e w'=>e=.returned (.tuple #[.string ByteArray.empty,.int .i64 k])∧Below w.heap.size w w':=by
 have c0:w.cell? ⟨C,0,none⟩=some (.pointer (some ⟨V,0,none⟩)):=by rw [cells_at h];rfl
 have HV:=hid hv
 have HE:=hid hE
 clear h hv hE
 go_enter Tryz.func23,Tryz.ntmps23
 go_wp2_with fail
 refine HV.out.mono ?_
 rintro e w1 ⟨ev,rfl,hch,hb1⟩
 have HCH:=hid hch
 clear hch
 go_wp2_with (go_at_call 43;refine (told_no _ _ k d _ HCH.out hd (HE.out.keeps hb1 (Nat.le_refl _))).mono ?_;rintro e w2 ⟨rfl,hb2⟩)
 go_ret2
 exact ⟨rfl,hb1.trans (hb2.mono hb1.size)⟩
end Go.Proofs.YtcegdgmbponapabGreatDoor
namespace Go.Proofs.YtcegdgmbponapabGreatDoor
open Go.RowKit
theorem split_sum (mode t l n:Nat) (hp:IsPlan mode t l n) (v a b x:List UInt8) (i:Nat) (hi:i<n) (ha:a.length=Cof.tsize mode t*Cof.ngroups mode t l v.length) (hb:b.length=a.length) (hx:x.length=a.length) (hxx:∀k,x.getD k 0=a.getD k 0^^^b.getD k 0) :
  Cof.sumRow ((Cof.split v mode t l n a).getD i []) ((Cof.split (List.replicate v.length 0) mode t l n b).getD i [])=(Cof.split v mode t l n x).getD i []:=by
 have hg:0<Cof.gsize mode t l:=by
  obtain ⟨_,_,h3,_,h5,_⟩:=hp
  unfold Cof.gsize
  split<;>omega
 rw [Cof.split_row v a mode t l n i hi hg ha,Cof.split_row _ b mode t l n i hi hg (by rw [hb,ha,List.length_replicate]),Cof.split_row v x mode t l n i hi hg (by rw [hx,ha]),List.length_replicate]
 apply List.ext_getElem
 ·simp [Cof.length_sumRow]
 ·intro g h1 h2
  have hg':g<Cof.ngroups mode t l v.length:=by simpa using h2
  have e:=Cof.piece_linear v (List.replicate v.length 0) a b v x mode t l i g (fun k=>by
   have:(List.replicate v.length (0:UInt8)).getD k 0=0:=by
    rw [List.getD_eq_getElem?_getD,List.getElem?_replicate]
    split<;>rfl
   rw [this];simp) hxx
  simp only [List.getElem_map,List.getElem_range,Cof.sumRow]
  rw [e]
  simp [hg']
theorem One.keeps {own:Nat→Prop} {w w':World} {base V key n B bc:Nat} {sp:Nat→Nat} {down:Nat→Bool} {mode t l size epoch:Nat} {nm:ByteArray} {P:Nat→List UInt8} {vs:Nat→Value} {xs:Nat→RecV} (h:One w base V key n B bc sp down mode t l size epoch nm P vs xs) (hs:Spared own w w')
  (h1:¬own V) (h2:¬own B) (h3:∀i,i<n→¬own (sp i)) (h4:∀i,i<n→∀b,(vs i).ownBlock=some b→¬own b) (h5:∀i,i<n→∀b,(xs i).blk=some b→¬own b):One w' base V key n B bc sp down mode t l size epoch nm P vs xs:=by
 obtain ⟨done,ahead,hvt⟩:=h.vt
 exact ⟨⟨done,ahead,hvt.keeps hs h1 h2⟩,fun i hi=>(h.st i hi).keeps hs (h3 i hi) (h4 i hi),fun i hi=>(h.ok i hi).keeps hs (h5 i hi),h.xi,h.vi,h.si,h.bV,h.bB,h.bsp,h.bv⟩
theorem One.below {w w':World} {base V key n B bc:Nat} {sp:Nat→Nat} {down:Nat→Bool} {mode t l size epoch:Nat} {nm:ByteArray} {P:Nat→List UInt8} {vs:Nat→Value} {xs:Nat→RecV} (h:One w base V key n B bc sp down mode t l size epoch nm P vs xs) (hb:Below w.heap.size w w'):One w' base V key n B bc sp down mode t l size epoch nm P vs xs :=
 h.keeps (Spared.ofBelow (own:=fun _=>False) hb (Nat.le_refl _)) (fun h=>h) (fun h=>h) (fun _ _ h=>h) (fun _ _ _ _ h=>h) (fun _ _ _ _ h=>h)
theorem One.hi {w:World} {base V key n B bc:Nat} {sp:Nat→Nat} {down:Nat→Bool} {mode t l size epoch:Nat} {nm:ByteArray} {P:Nat→List UInt8} {vs:Nat→Value} {xs:Nat→RecV} (h:One w base V key n B bc sp down mode t l size epoch nm P vs xs):V<w.heap.size∧B<w.heap.size∧(∀i,i<n→sp i<w.heap.size)∧∀i,i<n→∀b,(vs i).ownBlock=some b→b<w.heap.size:=by
 obtain ⟨done,ahead,hvt⟩:=h.vt
 obtain ⟨L,hL,_⟩:=hvt.hb
 exact ⟨cells_lt hvt.hp,cells_lt hL,fun i hi=>cells_lt (h.st i hi).hp,fun i hi b hb=>((h.st i hi).row.lt b hb).2⟩
end Go.Proofs.YtcegdgmbponapabGreatDoor
namespace Go.Proofs.YtcegdgmbponapabGreatDoor
open Go.RowKit
attribute [local go_sem ↓] Go.wp_at_zero Go.wp_at_succ
set_option maxRecDepth 100000 in
set_option maxHeartbeats 1000000 in
theorem refreshed_mode (V:Nat) (t l size epoch:Nat) (nm tape:ByteArray) (w:World) :
  Calls Tryz.prog 62 #[.pointer (some ⟨V,0,none⟩),.agg #[.string nm,.int .i64 1,.int .i64 t,.int .i64 l,.int .i64 size,.int .i64 epoch],.string tape] w fun e w' =>
   ∃ev,e=.returned (.tuple #[.slice none 0 0,ev])∧Chain w' 11 1 ev∧Below w.heap.size w w':=by
 have hba:=(Below.refl w.heap.size w).alloc (Nat.le_refl _) (.cells #[.string nm,.int .i64 1,.int .i64 t,.int .i64 l,.int .i64 size,.int .i64 epoch] 65)
 go_enter Tryz.func62,Tryz.ntmps62
 go_wp2_with (go_at_call 53;refine (at_chain _ _ 11 0 _ .hit).mono ?_;rintro e w2 ⟨e2,rfl,hch,hb2⟩;obtain ⟨te,ve,rfl⟩:=hch.shape)
 go_ret2
 exact ⟨_,rfl,hch,hba.trans (hb2.mono (by simp))⟩
end Go.Proofs.YtcegdgmbponapabGreatDoor