/-
  The walks of cofferkeep.tape and cofferkeep.xor.
  The walk of cofferkeep.xor.
  Lists of ints and of pieces, as cells.
  The walks of cofferkeep.in and cofferkeep.chosen.
-/
import Derived.Test.YtcegdgmbponapabGreatDoorPart02
namespace Go.Proofs.YtcegdgmbponapabGreatDoor
open Go.RowKit
attribute [local go_sem ↓] Go.wp_at_zero Go.wp_at_succ
theorem bs_set (xs:List UInt8) (k:Nat) (x:UInt8):(bs xs).set k (.int .u8 x.toNat)=bs (xs.set k x):=by simp [bs,List.map_set]
theorem store_any {w:World} {base g n k:Nat} {e:TypeId} {ys:List UInt8} (h:w.ownsRow base e 1 (.slice (some ⟨g,0,none⟩) n n) n (bs ys)) (z:UInt8) :
  (w.setCell ⟨g,k,none⟩ (.int .u8 z.toNat)).ownsRow base e 1 (.slice (some ⟨g,0,none⟩) n n) n (bs (ys.set k z)):=by
 have:=(h.stored k (.int .u8 z.toNat)).1
 rw [bs_set] at this
 exact this
theorem mod_u8 (k:Nat):((k:Int)*7) % 256=((UInt8.ofNat (k*7)).toNat:Int):=by simp
set_option maxRecDepth 100000 in
set_option maxHeartbeats 1000000 in
theorem tape_any (raw:ByteArray) (mode t l n size:Nat) (w:World) (h:IsPlan mode t l n) (hs:size≤60) (hr:raw.size≤maxLen) :
  Calls Tryz.prog 29 #[.string raw,.agg #[.int .i64 mode,.int .i64 t,.int .i64 l],.int .i64 size] w fun e w'=>∃s:ByteArray,e=.returned (.string s)∧s.size=Cof.tsize mode t*Cof.ngroups mode t l size∧Below w.heap.size w w':=by
 unfold maxLen at hr
 obtain ⟨i0,hi,hz0,hz1,hz2⟩:=info_parts Tryz.info5
 have hng:=ngroups_le h size hs
 have ht1:=h.t1
 have ht8:t≤8:=by have:=h.tn;have:=h.n8;omega
 rcases h.md with ⟨rfl,h6⟩|⟨rfl,rfl⟩
 ·go_enter Tryz.func29,Tryz.ntmps29
  have hg:=keepGroups_any 0 t l n size
  generalize Cof.ngroups 0 t l size=G at *
  obtain ⟨N,hN⟩:∃N,N=(t-1)*G:=⟨_,rfl⟩
  have hNi:((t:Int)-1)*(G:Int)=(N:Int):=by rw [hN,Int.natCast_mul];congr 1;omega
  have hNb:N≤480:=by rw [hN];exact Nat.mul_le_mul (show t-1≤8 by omega) hng
  have hw1:IntKind.i64.wrap ((t:Int)-1)=(t:Int)-1:=by rw [IntKind.wrap_i64];omega
  have hw2:IntKind.i64.wrap (N:Int)=N:=by rw [IntKind.wrap_i64];omega
  have HN:=hid hN
  have HG:=hid hg
  clear hN hg
  go_wp2_with fail
  go_region_held3 (fun w'=>w'.cell? ⟨w.heap.size,0,none⟩=some (.int .i64 (0:Nat))∧w'.cell? ⟨w.heap.size,1,none⟩=some (.int .i64 t)∧w'.cell? ⟨w.heap.size,2,none⟩=some (.int .i64 l)) (first | exact ⟨s0,s1,s2⟩|go_keep)
   (first | (go_at_call 47;refine (HG.out _ h hs).mono ?_;rintro e w1 ⟨rfl,hb1⟩;have s0:w1.cell? ⟨w.heap.size,0,none⟩=some (.int .i64 (0:Nat)):=(hb1.cell (by simp)).trans (by simp);have s1:w1.cell? ⟨w.heap.size,1,none⟩=some (.int .i64 t):=(hb1.cell (by simp)).trans (by simp);have s2:w1.cell? ⟨w.heap.size,2,none⟩=some (.int .i64 l):=(hb1.cell (by simp)).trans (by simp)))
  have hb01:Below w.heap.size w w1:=(((Below.refl _ _).alloc (Nat.le_refl _) _).drew).trans (hb1.mono (by simp))
  clear hb1
  go_wp2_with (first | (at_make;refine wpList_make_full _ rfl (.tmp 20) (.tmp 20) 44 rfl w1.heap.size 5 i0 (.int .u8 0) 1 Tryz.underlying44 hi hz0 hz1 .i64 .i64 _ _ N rfl rfl rfl rfl (by rw [hz2];omega) (by unfold maxLen;omega) (Nat.le_refl _) ?_;intro w2 hown2 hgrow2;have hb2:=grown_below hgrow2;have HO2:=hid (made_row hown2);clear hown2 hgrow2)|fail)
  go_loopw [9] (fun i wr=>∃(k:Nat) (xs:List UInt8),k≤N∧i=.int .i64 k∧xs.length=N∧wr.ownsRow w1.heap.size 5 1 (.slice (some ⟨w1.heap.size,0,none⟩) N N) N (bs xs)∧Below w1.heap.size w1 wr)
   (fun i _=>N-(intOf i).toNat)
  case atStart=>exact ⟨0,_,Nat.zero_le _,rfl,by simp,HO2.out,hb2⟩
  case round =>
   obtain ⟨k,xs,hk,rfl,hxl,hown,hbel⟩:=hrel
   have HXL:=hid hxl
   clear hxl
   by_cases hlt:k<N
   ·have hs1:=hown.frozenAt k
    have hc1:wr.cell? ⟨w1.heap.size,k,none⟩=some (.int .u8 (xs.getD k 0).toNat):=by rw [hown.cellAt k (by omega),bs_get _ _ (by rw [HXL.out];exact hlt)]
    generalize xs.getD k 0=x0 at *
    obtain ⟨y,hy⟩:∃y,y=UInt8.ofNat (k*7):=⟨_,rfl⟩
    have hyi:((k:Int)*7) % 256=(y.toNat:Int):=by rw [hy];exact mod_u8 k
    have hst:=(hown.stored k (.int .u8 y.toNat)).1
    rw [bs_set] at hst
    have hc2:(wr.setCell ⟨w1.heap.size,k,none⟩ (.int .u8 y.toNat)).cell? ⟨w1.heap.size,k,none⟩=some (.int .u8 y.toNat):=by
     rw [hst.cellAt k (by omega),bs_get _ _ (by simp [HXL.out];exact hlt)];simp [HXL.out,hlt]
    have hs2:=hst.frozenAt k
    have HST:=hid hst
    have hbel2:=hbel.setCell (p:=⟨w1.heap.size,k,none⟩) (Nat.le_refl _) (.int .u8 y.toNat)
    clear hy hst hown
    by_cases he:raw.size=0
    ·have hre:raw=⟨#[]⟩:=by
      cases raw with
      | mk d=>congr;exact Array.eq_empty_of_size_eq_zero he
     subst hre
     go_wp2
     go_roundw
     case rel=>exact ⟨k+1,xs.set k y,by omega,by go_num,by simp [HXL.out],HST.out,hbel2⟩
     case measure=>simp [intOf];omega
    ·obtain ⟨r,hr2⟩:∃r,r=k % raw.size:=⟨_,rfl⟩
     have hrl:r<raw.size:=by rw [hr2];exact Nat.mod_lt _ (by omega)
     have hri:(k:Int) % (raw.size:Int)=(r:Int):=by rw [hr2];simp
     have hrt:(k:Int).tmod (raw.size:Int)=(r:Int):=by rw [Int.tmod_eq_emod_of_nonneg (by omega)];exact hri
     have hr0:(0:Int)≤(r:Int):=by omega
     have hr1:(r:Int)<(raw.size:Int):=by omega
     have hwr:IntKind.i64.wrap (r:Int)=r:=by rw [IntKind.wrap_i64];omega
     clear hr2
     go_wp2_with fail
     case roundEnd =>
      go_roundw
      case rel=>exact ⟨k+1,xs.set k y,by omega,by go_num,by simp [HXL.out],HST.out,hbel2⟩
      case measure=>simp [intOf];omega
     go_region
     all_goals
      go_wp2
      go_roundw
      case rel=>exact ⟨k+1,(xs.set k y).set k (y^^^raw[r]),by omega,by go_num,by simp [HXL.out],by rw [bits_xor];exact (store_any HST.out _).drew,(hbel2.setCell (p:=⟨w1.heap.size,k,none⟩) (Nat.le_refl _) _).drew⟩
      case measure=>simp [intOf];omega
   ·have hkn:k=N:=by omega
    have hconv:=conv_string wr (some ⟨w1.heap.size,0,none⟩) N N xs HXL.out.symm (owns_rd hown)
    have hsz:(⟨xs.toArray⟩:ByteArray).size=N:=by rw [←HXL.out];rfl
    have HSZ:=hid hsz
    clear hsz hown
    generalize (⟨xs.toArray⟩:ByteArray)=res at *
    go_wp2
    go_ret
    exact ⟨_,rfl,by rw [HSZ.out,HN.out];rfl,hb01.trans (hbel.mono hb01.size)⟩
 ·go_enter Tryz.func29,Tryz.ntmps29
  go_wp2_with (first | (at_make;refine wpList_make_full _ rfl (.tmp 20) (.tmp 20) 44 rfl w.heap.size 5 i0 (.int .u8 0) 1 Tryz.underlying44 hi hz0 hz1 .i64 .i64 _ _ 0 rfl rfl rfl rfl (by rw [hz2];omega) (by unfold maxLen;omega) (by simp) ?_;intro w2 hown2 hgrow2;have hb2:Below w.heap.size w w2:=((Below.refl w.heap.size w).alloc (Nat.le_refl _) _).grown hgrow2 (by simp) (by intro k hk;cases hk))|fail)
  have hconv:=conv_string w2 _ 0 0 [] rfl (Rd.nil w2 (some ⟨w.heap.size+1,0,none⟩))
  refine wp_loop_rounds 1 ?_
  rw [rounds_succ]
  go_wp2
  go_ret
  exact ⟨_,rfl,by simp [Cof.tsize];rfl,hb2⟩
def FB (w:World) (g:Nat) (xs:List UInt8):Prop :=
 ∃C:Array Value,w.heap[g]?=some (.cells C 5 (C.size,C.size+1))∧xs.length≤C.size∧C.toList.take xs.length=bs xs
theorem FB.at {w:World} {g:Nat} {xs:List UInt8} (h:FB w g xs) (k:Nat) (hk:k<xs.length):w.cell? ⟨g,k,none⟩=some (.int .u8 (xs.getD k 0).toNat)∧w.frozen? ⟨g,k,none⟩=false:=by
 obtain ⟨C,h1,h2,h3⟩:=h
 constructor
 ·have:C.toList[k]?=(bs xs)[k]?:=by rw [←h3,List.getElem?_take,if_pos hk]
  rw [bs_get _ _ hk] at this
  simp only [World.cell?,h1]
  simpa using this
 ·simp only [World.frozen?,h1]
  simp;omega
theorem FB.rd {w:World} {g:Nat} {xs:List UInt8} (h:FB w g xs) (hg:g<w.heap.size):Rd w (some ⟨g,0,none⟩) (bs xs):=by
 intro k v hk
 have hkl:k<xs.length:=by
  rcases Nat.lt_or_ge k xs.length with h' | h'
  ·exact h'
  ·rw [List.getElem?_eq_none (by rw [bs_length];exact h')] at hk;simp at hk
 refine ⟨g,0,rfl,hg,?_⟩
 rw [Nat.zero_add,(h.at k hkl).1,←bs_get _ _ hkl,hk]
theorem conv_own (w:World) (s:ByteArray):∃cap w',(convert 9 44 (.string s)).run Tryz.prog w=.ok (.slice (some ⟨w.heap.size,0,none⟩) s.size cap) w'∧FB w' w.heap.size s.data.toList∧Below w.heap.size w w'∧w'.heap.size=w.heap.size+1:=by
 refine ⟨_,_,run_bytes_of_string w 9 44 5 s Tryz.underlying9 Tryz.underlying44 Tryz.underlying5,?_,((Below.refl _ _).drew).alloc (Nat.le_refl _) _,by simp⟩
 refine ⟨bytesRow s (grownCap w s.size 0 5),?_,?_,?_⟩
 ·show (w.heap.push _)[w.heap.size]?=_
  simp
 ·simp [bytesRow]
 ·simp [bytesRow,bs]
end Go.Proofs.YtcegdgmbponapabGreatDoor
namespace Go.Proofs.YtcegdgmbponapabGreatDoor
open Go.RowKit
def ints (ss:List Nat):List Value:=ss.map fun (s:Nat)=>.int .i64 (s:Int)
def pcs (rows:List (List UInt8)) (ss:List Nat):List Value:=ss.flatMap fun (s:Nat)=>[.int .i64 (s:Int),str (rows.getD s [])]
theorem pcs_at (rows:List (List UInt8)) (ss:List Nat) (k:Nat) (h:k<ss.length):(pcs rows ss)[k*2]?=some (.int .i64 ss[k])∧(pcs rows ss)[k*2+1]?=some (str (rows.getD ss[k] [])):=by
 induction ss generalizing k with
 | nil=>simp at h
 | cons s r ih =>
  cases k with
  | zero=>simp [pcs]
  | succ k =>
   have:=ih k (by simpa using h)
   simp only [pcs,List.flatMap_cons] at this ⊢
   rw [show (k+1)*2=k*2+2 from by omega,show k*2+2+1=(k*2+1)+2 from by omega]
   simpa using this
theorem Tryz.infoPiece:(Tryz.prog.info? 187).map (fun i=>(i.zero,i.size,i.bytes))=some (some (.agg #[.int .i64 0,.string ByteArray.empty]),2,24):=by kernel_rfl
end Go.Proofs.YtcegdgmbponapabGreatDoor
namespace Go.Proofs.YtcegdgmbponapabGreatDoor
open Go.RowKit
attribute [local go_sem ↓] Go.wp_at_zero Go.wp_at_succ
end Go.Proofs.YtcegdgmbponapabGreatDoor