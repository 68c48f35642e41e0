import Derived.Test.YtcegdgmbponapaaGreatDoorPart34
set_option maxRecDepth 100000
set_option maxHeartbeats 4000000
namespace Go.Proofs.YtcegdgmbponapaaGreatDoor
open Go.RowKit
section
variable {P:Program} {ops:Array Oper} {Q:Exit→Act→World→Prop}
theorem qa3 {id:Nat} {a:Act} {w:World} (hm:P.follows .mixedOrders=true) (slot:Nat→Nat) (R:Nat→Value→World→Prop) (O:Nat→Prop) (N m m0:Nat) (keys:List Nat)
  (hok:qeU ops slot N m keys=true) (hle:qbX ops m=true)
  (ha:a.defers=[]) (hN:a.tmps.size=N)
  (hper:∀j v w w',R j v w→qaa (fun _=>False) w w'→R j v w') (hperO:∀j v w w',j≠m0→R j v w→qaa O w w'→R j v w')
  (hstep:qeb P slot R (keys.map fun k=>(k,a.tmps.getD k undef)) m0 O { w with drawn:=w.drawn+1 } 0 (ops.toList.take m))
  (hlast:∀a' w' o,ops[m]?=some o→a'.defers=[]→a'.tmps.size=N→qaa O { w with drawn:=w.drawn+1 } w'→(∀k∈keys,a'.tmps.getD k undef=a.tmps.getD k undef)→(∀j,j<m→R j (a'.tmps.getD (slot j) undef) w')→o.wp P a' w' (fun a' w''=>Q .normal a' w'') Q) :
  (Code.region id ops true).wp P Q a w :=
 qbA hm slot R O (keys.map fun k=>(k,a.tmps.getD k undef)) N m m0 keys hok hle (by rw [List.map_map];exact List.map_id keys) ha hN (fun p hp=>by obtain ⟨k,_,rfl⟩:=List.mem_map.1 hp;rfl) hper hperO hstep
  (fun a' w' o h1 h2 h3 h4 h5 h6=>hlast a' w' o h1 h2 h3 h4 (fun k hk=>h5 (k,a.tmps.getD k undef) (List.mem_map.2 ⟨k,hk,rfl⟩)) h6)
theorem qdb {id:Nat} {a:Act} {w:World} (hm:P.follows .mixedOrders=true) (slot:Nat→Nat) (R:Nat→Value→World→Prop) (N:Nat) (keys:List Nat)
  (hok:qkX ops slot N keys=true)
  (ha:a.defers=[]) (hN:a.tmps.size=N)
  (hper:∀j v w w',R j v w→Below w.heap.size w w'→R j v w')
  (hstep:qcx P slot R (keys.map fun k=>(k,a.tmps.getD k undef)) { w with drawn:=w.drawn+1 } 0 ops.toList)
  (hend:∀a' w',a'.defers=[]→a'.tmps.size=N→Below w.heap.size { w with drawn:=w.drawn+1 } w'→(∀k∈keys,a'.tmps.getD k undef=a.tmps.getD k undef)→(∀j,j<ops.size→R j (a'.tmps.getD (slot j) undef) w')→Q .normal a' w') :
  (Code.region id ops true).wp P Q a w :=
 qau hm slot R (keys.map fun k=>(k,a.tmps.getD k undef)) N keys hok (by rw [List.map_map];exact List.map_id keys) ha hN (fun p hp=>by obtain ⟨k,_,rfl⟩:=List.mem_map.1 hp;rfl) hper hstep
  (fun a' w' h1 h2 h3 h4 h5=>hend a' w' h1 h2 h3 (fun k hk=>h4 (k,a.tmps.getD k undef) (List.mem_map.2 ⟨k,hk,rfl⟩)) h5)
end
theorem keyAt {keys:List Nat} {a a0:Act} (hf:∀p∈keys.map (fun k=>(k,a0.tmps.getD k undef)),a.tmps.getD p.1 undef=p.2) (k:Nat) (hk:k∈keys) (v:Value) (hv:a0.tmps.getD k undef=v):a.tmps[k]?.getD undef=v:=by
 have h1:a.tmps.getD k undef=a0.tmps.getD k undef:=hf (k,a0.tmps.getD k undef) (List.mem_map_of_mem hk)
 rw [←hv,←h1]
 simp
def qbQ (t0:Array Value) (f:Nat→Value) (lo:Nat):Nat→Array Value
 | 0=>t0
 | m+1=>(qbQ t0 f lo m).setIfInBounds (lo+m) (f (lo+m))
theorem qd1 (t0:Array Value) (f:Nat→Value) (lo m:Nat):(qbQ t0 f lo m).size=t0.size:=by
 induction m with
 | zero=>rfl
 | succ m ih=>simp [qbQ,ih]
theorem qil (t0:Array Value) (f:Nat→Value) (lo m i:Nat) (hi:i<t0.size):(qbQ t0 f lo m)[i]?=if lo≤i∧i<lo+m then some (f i) else t0[i]?:=by
 induction m with
 | zero=>rw [if_neg (by omega)];rfl
 | succ m ih =>
  unfold qbQ
  rw [Array.getElem?_setIfInBounds]
  by_cases h:lo+m=i
  ·subst h
   rw [if_pos rfl,if_pos (by rw [qd1];exact hi),if_pos (by omega)]
  ·rw [if_neg h,ih]
   by_cases h2:lo≤i∧i<lo+m
   ·rw [if_pos h2,if_pos (by omega)]
   ·rw [if_neg h2,if_neg (by omega)]
theorem qh5 (t t0:Array Value) (h:t.size=t0.size) (lo m:Nat) (hk:∀k,k<t0.size→(k<lo∨lo+m≤k)→t.getD k undef=t0.getD k undef):t=qbQ t0 (fun k=>t.getD k undef) lo m:=by
 apply Array.ext_getElem?
 intro i
 by_cases hi:i<t0.size
 ·rw [qil _ _ _ _ _ hi]
  have hit:i<t.size:=by rw [h];exact hi
  by_cases h2:lo≤i∧i<lo+m
  ·rw [if_pos h2]
   simp [hit]
  ·rw [if_neg h2]
   have:=hk i hi (by omega)
   simp [hit,hi] at this
   simp [hit,hi,this]
 ·rw [Array.getElem?_eq_none (by omega),Array.getElem?_eq_none (by rw [qd1];omega)]
attribute [local go_sem ↓] Go.wp_at_zero Go.wp_at_succ
theorem arrF54 (t:Array Value) (h:t.size=54):∃f:Nat→Value,(∀k,t.getD k undef=f k)∧t=#[f 0,f 1,f 2,f 3,f 4,f 5,f 6,f 7,f 8,f 9,f 10,f 11,f 12,f 13,f 14,f 15,f 16,f 17,f 18,f 19,f 20,f 21,f 22,f 23,f 24,f 25,f 26,f 27,f 28,f 29,f 30,f 31,f 32,f 33,f 34,f 35,f 36,f 37,f 38,f 39,f 40,f 41,f 42,f 43,f 44,f 45,f 46,f 47,f 48,f 49,f 50,f 51,f 52,f 53]:=⟨fun k=>t.getD k undef,fun _=>rfl,qco t 54 h⟩
def deA (X P ob oo m oc k:Nat) (ov:Value) (cs:Array Value) (j0 B w0:Nat) (L:List Value):Nat→Value→World→Prop
 | 0,v,_=>v=.pointer (some ⟨X,0,none⟩)
 | 1,v,_=>v=.pointer (some ⟨X,0,none⟩)
 | 2,v,_=>v=.pointer (some ⟨X,0,none⟩)
 | 3,v,_=>v=.pointer (some ⟨X,3,none⟩)
 | 4,v,_=>v=ov
 | 5,v,_=>v=.pointer (some ⟨P,0,none⟩)
 | 6,v,_=>v=.pointer (some ⟨P,0,none⟩)
 | 7,v,_=>v=.pointer (some ⟨P,3,none⟩)
 | 8,v,_=>v=.slice (some ⟨ob,oo,none⟩) m oc
 | 9,v,_=>v=.int .i64 k
 | 10,v,_=>v=.pointer (some ⟨ob,oo+k*7,none⟩)
 | 11,v,_=>v=.agg cs
 | 12,v,w=>∃g,v=.slice (some ⟨g,0,none⟩) 1 1∧w.heap[g]?=some (.cells cs 198)∧w0≤g
 | 13,v,w=>w.ownsRow B 198 7 v (j0+1) (L++cs.toList)
 | 14,v,_=>v=.pointer (some ⟨X,0,none⟩)
 | 15,v,_=>v=.pointer (some ⟨X,3,none⟩)
 | _,_,_=>False
theorem qku (X P ob oo m oc k:Nat) (ov:Value) (cs:Array Value) (j0 B w0:Nat) (L:List Value) (j:Nat) (v:Value) (w w':World) (h:deA X P ob oo m oc k ov cs j0 B w0 L j v w) (hs:qaa (fun _=>False) w w'):deA X P ob oo m oc k ov cs j0 B w0 L j v w':=by
 unfold deA at h ⊢
 split at h<;>first | exact h | exact qab h hs (fun _ _ h=>h)|(obtain ⟨g,h1,h2,h3⟩:=h;exact ⟨g,h1,hs.heap h2 (fun h=>h),h3⟩)
theorem qiB (X P ob oo m oc k:Nat) (ov:Value) (cs:Array Value) (j0 B w0:Nat) (L:List Value) (hov:∀b,ov.ownBlock=some b→b<w0) (j:Nat) (v:Value) (w w':World) (hj:j≠13) (h:deA X P ob oo m oc k ov cs j0 B w0 L j v w) (hs:qaa (fun b=>ov.ownBlock=some b) w w'):deA X P ob oo m oc k ov cs j0 B w0 L j v w':=by
 unfold deA at h ⊢
 split at h<;>first | exact h | exact absurd rfl hj | (obtain ⟨g,h1,h2,h3⟩:=h;exact ⟨g,h1,hs.heap h2 (fun h=>by have:=hov g h;omega),h3⟩)
structure DeJ (wr w w1:World) (X n key p:Nat) (dn:Nat→Bool) (dv:Value) (xs:List RObj) (k:Nat) (ov:Value) (j0:Nat):Prop where
 hX:wr.heap[X]?=some (.cells (qci n key dv ov) 130)
 down:wr.ownsRow 0 4 1 dv n (bools dn n)
 obj:wr.ownsRow w1.heap.size 198 7 ov j0 (qat n ((xs.take k).eraseIdx p))
 len:j0=((xs.take k).eraseIdx p).length
 bel:Below w.heap.size w wr
 ge:w1.heap.size≤wr.heap.size
theorem qhV (xs:List RObj) (k p:Nat) (h:k<xs.length) (hk:k=p):(xs.take (k+1)).eraseIdx p=(xs.take k).eraseIdx p:=by
 subst hk
 have h1:(xs.take k).length=k:=by rw [List.length_take];omega
 have h2:(xs.take (k+1)).length=k+1:=by rw [List.length_take];omega
 rw [List.eraseIdx_of_length_le (l:=xs.take k) (by omega),List.eraseIdx_eq_take_drop_succ,List.drop_of_length_le (by omega),List.append_nil,List.take_take]
 congr 1
 omega
theorem qiC (xs:List RObj) (k p:Nat) (h:k<xs.length) (hk:k≠p):(xs.take (k+1)).eraseIdx p=(xs.take k).eraseIdx p++[xs[k]!]:=by
 rw [List.take_succ_eq_append_getElem h,getElem!_pos xs k h]
 by_cases hp:p<k
 ·rw [List.eraseIdx_append_of_lt_length (by simp;omega)]
 ·rw [List.eraseIdx_append_of_length_le (by simp;omega),List.eraseIdx_of_length_le (l:=[xs[k]]) (by simp;omega),List.eraseIdx_of_length_le (by simp;omega)]
section
variable {w:World} {P n key:Nat} {dn:Nat→Bool} {dv:Value} {xs:List RObj}
theorem Wd.deleting_none (h:Wd w P n key dn dv xs) (nm:ByteArray) (hno:∀j,j<xs.length→(xs[j]!).ob.name≠nm) :
  Calls Tryz.prog 160 #[.pointer (some ⟨P,0,none⟩),.string nm] w fun e w'=>e=.returned (.tuple #[.pointer none,.int .i64 9])∧w'=w:=by
 have HF:=hid (h.find_any nm (-1) (fun _=>rfl) (fun k hk e _=>absurd e (hno k hk)))
 clear h hno
 go_enter Tryz.func160,Tryz.ntmps160
 go_wp2_with fail
 refine HF.out.mono ?_
 rintro e w2 ⟨rfl,hw2⟩
 obtain rfl:=hw2.symm
 go_wp2_with fail
 go_ret2
 exact ⟨rfl,rfl⟩
theorem Wd.deleting_down (h:Wd w P n key dn dv xs) (nm:ByteArray) (p:Nat) (hk:p<xs.length) (hnm:(xs[p]!).ob.name=nm) (hbef:∀j,j<xs.length→(xs[j]!).ob.name=nm→j=p) (hd:∃i,i<n∧dn i=true) :
  Calls Tryz.prog 160 #[.pointer (some ⟨P,0,none⟩),.string nm] w fun e w'=>e=.returned (.tuple #[.pointer none,.int .i64 8])∧w'=w:=by
 have HF:=hid (h.find_any nm p (fun hno=>absurd hnm (hno p hk)) (fun j hj e _=>by rw [hbef j hj e]))
 have HU:=hid (h.allUp_any false (fun _ _ _=>rfl) (fun hall=>by obtain ⟨i,hi,e⟩:=hd;rw [hall i hi] at e;cases e))
 have hp10:p<10:=by have:=h.len;omega
 clear h hnm hbef hd
 go_enter Tryz.func160,Tryz.ntmps160
 go_wp2_with fail
 refine HF.out.mono ?_
 rintro e w2 ⟨rfl,hw2⟩
 obtain rfl:=hw2.symm
 go_wp2_with fail
 refine HU.out.mono ?_
 rintro e w2 ⟨rfl,hw2⟩
 obtain rfl:=hw2.symm
 go_wp2_with fail
 go_ret2
 exact ⟨rfl,rfl⟩
def qj0 (w:World) (n key:Nat) (dn:Nat→Bool) (xs:List RObj) (p:Nat) (e:Ending) (w':World):Prop:=∃X dv' ys,e=.returned (.tuple #[.pointer (some ⟨X,0,none⟩),.int .i64 0])∧Wd w' X n key dn dv' ys∧ys.length=(xs.eraseIdx p).length∧(∀j,j<(xs.eraseIdx p).length→(ys[j]!).ob=((xs.eraseIdx p)[j]!).ob∧(ys[j]!).sh=((xs.eraseIdx p)[j]!).sh)∧Below w.heap.size w w'∧∀b,dv'.ownBlock=some b→w.heap.size≤b
theorem Wd.deleting_ok (h:Wd w P n key dn dv xs) (nm:ByteArray) (p:Nat) (hk:p<xs.length) (hnm:(xs[p]!).ob.name=nm) (hbef:∀j,j<xs.length→(xs[j]!).ob.name=nm→j=p) (hup:∀i,i<n→dn i=false) :
  Calls Tryz.prog 160 #[.pointer (some ⟨P,0,none⟩),.string nm] w fun e w'=>qj0 w n key dn xs p e w':=by
 have HF:=hid (h.find_any nm p (fun hno=>absurd hnm (hno p hk)) (fun j hj e _=>by rw [hbef j hj e]))
 have HU:=hid (h.allUp_any true (fun i hi e=>by rw [hup i hi] at e;cases e) (fun _=>rfl))
 have HCP:=hid h.copied_any
 obtain ⟨iO,hiO,hO0,hO1,hO2⟩:=info_parts Tryz.infoRObj
 obtain ⟨oa,oc,h1,hrd⟩:=h.hp
 have hPl:=cells_lt h1
 have hn1:=h.n1
 have hl10:=h.len
 have HP:=hid h1
 have HRD:=hid hrd
 have HW:=hid h
 have hp10:p<10:=by omega
 obtain ⟨m,hm⟩:∃m,m=xs.length:=⟨_,rfl⟩
 have HM:=hid hm
 rw [←hm] at hl10
 clear h1 hrd h hnm hbef hup hm
 go_enter Tryz.func160,Tryz.ntmps160
 go_wp2_with fail
 refine HF.out.mono ?_
 rintro e w2 ⟨rfl,hw2⟩
 obtain rfl:=hw2.symm
 go_wp2_with fail
 refine HU.out.mono ?_
 rintro e w2 ⟨rfl,hw2⟩
 obtain rfl:=hw2.symm
 go_wp2_with fail
 refine HCP.out.mono ?_
 rintro e w1 ⟨X,dv',ov0,ys0,rfl,hcp,hXge⟩
 have hX1:=hcp.hX
 have x3:w1.cell? ⟨X,3,none⟩=some ov0:=cq hX1 rfl
 have xf:w1.frozen? ⟨X,3,none⟩=false:=qam hX1
 have HX1:=hid hX1
 have HJ0:=hid (show DeJ (w1.setCell ⟨X,3,none⟩ (.slice none 0 0)) w w1 X n key p dn dv' xs 0 (.slice none 0 0) 0 from by
  have hsX:qaa (fun b=>b=X) w1 (w1.setCell ⟨X,3,none⟩ (.slice none 0 0)):=qaa.setCell (own:=fun b=>b=X) (p:=⟨X,3,none⟩) sr rfl _
  refine ⟨qan _ hX1,?_,World.ownsRow_nil _ _ _ _,rfl,?_,hsX.size⟩
  ·have hd0:=qaf hcp.down (Nat.zero_le _)
   exact qab hd0 hsX (fun b hb e=>by rw [e] at hb;exact qaz hd0 hX1 (by decide) hb)
  ·exact hcp.bel.trans (hsX.below w.heap.size hcp.bel.size (fun b hb=>by rw [hb];exact hXge)))
 have hb1:=hcp.bel
 clear hcp hX1 HF HU HCP
 go_wp2_with fail
 go_loopw [9] (fun u wr=>∃(k:Nat) (ov:Value) (j0:Nat),u=.int .i64 k∧k≤m∧DeJ wr w w1 X n key p dn dv' xs k ov j0) (fun u _=>m-(intOf u).toNat)
 case atStart=>exact ⟨0,_,0,rfl,Nat.zero_le _,HJ0.out⟩
 case round =>
  obtain ⟨k,ov,j0,rfl,hkm,hj⟩:=hrel
  have HJ:=hid hj
  have hbr:=hj.bel
  have hPr:=(hbr.block P hPl).trans HP.out
  have c3:wr.cell? ⟨P,3,none⟩=some (.slice oa m oc):=by rw [cells_at hPr,HM.out];rfl
  have HPR:=hid hPr
  have hj10:j0≤10:=by
   rw [hj.len]
   refine Nat.le_trans (List.length_eraseIdx_le _ _) ?_
   rw [List.length_take]
   omega
  clear hj hPr
  by_cases hlt:k<m
  ·have hlt':(k:Int)<(m:Int):=by omega
   have hkx:k<xs.length:=by rw [←HM.out];exact hlt
   by_cases hkp:k=p
   ·have HE:=hid (qhV xs k p hkx hkp)
    subst hkp
    go_wp2_with fail
    go_roundw
    case rel=>exact ⟨k+1,ov,j0,by go_num,hlt,⟨HJ.out.hX,HJ.out.down,by rw [HE.out];exact HJ.out.obj,by rw [HE.out];exact HJ.out.len,hbr,HJ.out.ge⟩⟩
    case measure=>simp [intOf];omega
   ·have HE:=hid (qiC xs k p hkx hkp)
    have hkp':((k:Int) == (p:Int))=false:=beq_eq_false_iff_ne.2 (by omega)
    have hkp2:¬(k:Int)=(p:Int):=by omega
    have hrdr:=HRD.out.below hbr nl
    obtain ⟨ob,oo,rfl,hobl,_⟩:=hrdr.pos (by rw [qar];omega)
    obtain ⟨x,hx⟩:∃x,x=xs[k]! := ⟨_,rfl⟩
    have HXK:=hid (show ∀w',Below w.heap.size w w'→w'.cell? ⟨ob,oo+k*7,none⟩=some (.string x.ob.name)∧w'.cell? ⟨ob,oo+k*7+1,none⟩=some (.int .i64 x.ob.mode)∧w'.cell? ⟨ob,oo+k*7+2,none⟩=some (.int .i64 x.ob.t)∧w'.cell? ⟨ob,oo+k*7+3,none⟩=some (.int .i64 x.ob.l)∧w'.cell? ⟨ob,oo+k*7+4,none⟩=some (.int .i64 x.ob.size)∧w'.cell? ⟨ob,oo+k*7+5,none⟩=some (.int .i64 x.ob.epoch)∧w'.cell? ⟨ob,oo+k*7+6,none⟩=some (.slice x.sa n x.sc) from fun w' hb=>(qbf (HRD.out.below hb nl) k hkx x (hx.trans (getElem!_pos xs k hkx))).2)
    rw [←hx] at HE
    clear hrdr hx hkx
    go_wp2_with fail
    have HOVL:=hid (show ∀b,ov.ownBlock=some b→b<wr.heap.size from fun b hb=>(HJ.out.obj.lt b hb).2)
    have HXO:=hid (show ¬ov.ownBlock=some X from fun e=>qaz HJ.out.obj HJ.out.hX (by decide) e)
    have HOBJ:=hid (show ({ wr with drawn:=wr.drawn+1 }:World).ownsRow w1.heap.size 198 7 ov j0 (qat n ((xs.take k).eraseIdx p)) from HJ.out.obj.drew)
    have HOVG:=hid (show ∀b,ov.ownBlock=some b→w1.heap.size≤b from fun b hb=>(HJ.out.obj.lt b hb).1)
    have HC:∀w':World,qaa (fun b=>ov.ownBlock=some b) { wr with drawn:=wr.drawn+1 } w'→w'.cell? ⟨X,3,none⟩=some ov∧w'.cell? ⟨P,3,none⟩=some (.slice (some ⟨ob,oo,none⟩) m oc)∧Below w.heap.size w w':=by
     intro w' hs
     refine ⟨cq (hs.heap (b:=X) HJ.out.hX HXO.out) rfl,by rw [cells_at (hs.heap (b:=P) HPR.out (fun e=>qaz HJ.out.obj HPR.out (by decide) e)),HM.out];rfl,?_⟩
     exact hbr.trans ((Below.drew bl).trans (hs.below w.heap.size hbr.size (fun b hb=>Nat.le_trans hb1.size (HOVG.out b hb))))
    obtain ⟨LL,hLL⟩:∃LL,LL=qat n ((xs.take k).eraseIdx p):=⟨_,rfl⟩
    have HLL:=hid hLL
    rw [←hLL] at HOBJ
    clear hLL
    refine qa3 (by kernel_rfl) (fun i=>i+36) (deA X P ob oo m oc k ov #[.string x.ob.name,.int .i64 x.ob.mode,.int .i64 x.ob.t,.int .i64 x.ob.l,.int .i64 x.ob.size,.int .i64 x.ob.epoch,.slice x.sa n x.sc] j0 w1.heap.size wr.heap.size LL) (fun b=>ov.ownBlock=some b) 54 16 13 [0,1,2,3,4,5,6,7,8,9,10,11,12,13,14,15,16,17,18,19,20,21,22,23,52,53] (by kernel_rfl) (by kernel_rfl) rfl rfl (qku X P ob oo m oc k ov _ j0 w1.heap.size wr.heap.size LL) (qiB X P ob oo m oc k ov _ j0 w1.heap.size wr.heap.size LL HOVL.out) ?_ ?_
    ·refine ⟨?_,?_,?_,?_,?_,?_,?_,?_,?_,?_,?_,?_,?_,?_,?_,?_,trivial⟩
     all_goals
      intro a w' hs hno hf hd
      have f0:a.tmps[0]?.getD undef=.pointer (some ⟨P,0,none⟩):=by simpa using hf (0,_) (by simp)
      have f8:a.tmps[8]?.getD undef=.pointer (some ⟨X,0,none⟩):=by simpa using hf (8,_) (by simp)
      have f9:a.tmps[9]?.getD undef=.int .i64 k:=by simpa using hf (9,_) (by simp)
      obtain ⟨x3,p3,hbw⟩:=HC w' hs
      obtain ⟨k0,k1,k2,k3,k4,k5,k6⟩:=HXK.out w' hbw
      simp [deA] at hd
      try (refine .inl ⟨_,w',?_,fun _=>qaa.refl _ _,sr,rfl⟩;go_simp;done)
     ·refine .inl ⟨.slice (some ⟨w'.heap.size,0,none⟩) 1 1,w'.alloc (.cells #[.string x.ob.name,.int .i64 x.ob.mode,.int .i64 x.ob.t,.int .i64 x.ob.l,.int .i64 x.ob.size,.int .i64 x.ob.epoch,.slice x.sa n x.sc] 198),?_,fun _=>qaa.ofBelow ((Below.refl _ _).alloc nl _) nl,qaa.ofBelow ((Below.refl _ _).alloc nl _) nl,?_⟩
      ·go_simp
      ·exact ⟨_,rfl,alloc_at _ _,hs.size⟩
     ·obtain ⟨hd1,g,hd2,hg,hgl⟩:=hd
      have hs0:=hno rfl
      refine qcf (.tmp 40) (.tmp 48) 128 rfl w1.heap.size 198 iO (.agg #[.string ⟨#[]⟩,.int .i64 0,.int .i64 0,.int .i64 0,.int .i64 0,.int .i64 0,.slice none 0 0]) 7 80 Tryz.underlying128 hiO hO0 hO1 hO2 rfl (by decide) ov j0 LL (by simp [Act.eval];exact hd1) (qab HOBJ.out hs0 (fun _ _ h=>h)) ⟨g,0,none⟩ 1 1 [.string x.ob.name,.int .i64 x.ob.mode,.int .i64 x.ob.t,.int .i64 x.ob.l,.int .i64 x.ob.size,.int .i64 x.ob.epoch,.slice x.sa n x.sc] (by simp [Act.eval];exact hd2) rfl (fun j u hj=>?_) (fun u hu=>?_) (by unfold maxLen;omega) (by omega) (Nat.le_trans HJ.out.ge hs0.size) (by omega) ?_
      ·rw [qaW,Nat.zero_add,cells_at hg]
       simpa using hj
      ·exact qfJ n x u hu
      ·intro v' w'' hown hgrow hat
       exact ⟨fun h=>absurd rfl h,qa5 hgrow,hown⟩
    ·intro a w' oo' hoo hdf hsz hs hf hr
     obtain ⟨x3,p3,hbw⟩:=HC w' hs
     cases hoo
     have r13:=hr 13 (by decide)
     have r15:=hr 15 (by decide)
     simp [deA] at r13 r15
     obtain ⟨ov',hov'⟩:∃ov',ov'=a.tmps.getD 49 undef:=⟨_,rfl⟩
     have r13':w'.ownsRow w1.heap.size 198 7 ov' (j0+1) (qat n ((xs.take (k+1)).eraseIdx p)):=by
      rw [HE.out,qbh,←HLL.out,hov',show qat n [x]=[.string x.ob.name,.int .i64 x.ob.mode,.int .i64 x.ob.t,.int .i64 x.ob.l,.int .i64 x.ob.size,.int .i64 x.ob.epoch,.slice x.sa n x.sc] from rfl]
      simpa using r13
     obtain ⟨go,co,hvo,_,_⟩:=r13'.form (by omega)
     have hX':=hs.heap (b:=X) HJ.out.hX HXO.out
     have hsX:qaa (fun b=>b=X) w' (w'.setCell ⟨X,3,none⟩ ov'):=qaa.setCell (own:=fun b=>b=X) (p:=⟨X,3,none⟩) sr rfl _
     have HNX:=hid (show DeJ (w'.setCell ⟨X,3,none⟩ ov') w w1 X n key p dn dv' xs (k+1) ov' (j0+1) from by
      refine ⟨qan _ hX',?_,?_,?_,?_,?_⟩
      ·have h3:=qab HJ.out.down.drew hs (fun b hb hob=>qcH HJ.out.down HJ.out.obj (by decide) b hb hob)
       exact qab h3 hsX (fun b hb e=>by rw [e] at hb;exact qaz h3 hX' (by decide) hb)
      ·exact qab r13' hsX (fun b hb e=>by rw [e] at hb;exact qaz r13' hX' (by decide) hb)
      ·rw [HE.out,List.length_append,←HJ.out.len]
       rfl
      ·exact hbw.trans (hsX.below w.heap.size hbw.size (fun b hb=>by rw [hb];exact hXge))
      ·exact Nat.le_trans HJ.out.ge (Nat.le_trans hs.size hsX.size))
     refine qaF 128 (.tmp 51) (.tmp 49) rfl X 3 ov' (by simp [Act.eval];exact r15) (by simp [Act.eval];rw [hov'];simp) (by rw [hvo];rfl) (by rw [hvo];rfl) (by kernel_rfl) ov x3 (qam hX') ?_
     obtain ⟨tm,df⟩:=a
     simp only at hdf hsz hf hr
     subst hdf
     obtain ⟨f',hfk,rfl⟩:=arrF54 tm hsz
     have g0:=(hfk 0).symm.trans (hf 0 (by simp))
     have g1:=(hfk 1).symm.trans (hf 1 (by simp))
     have g2:=(hfk 2).symm.trans (hf 2 (by simp))
     have g3:=(hfk 3).symm.trans (hf 3 (by simp))
     have g4:=(hfk 4).symm.trans (hf 4 (by simp))
     have g5:=(hfk 5).symm.trans (hf 5 (by simp))
     have g6:=(hfk 6).symm.trans (hf 6 (by simp))
     have g7:=(hfk 7).symm.trans (hf 7 (by simp))
     have g8:=(hfk 8).symm.trans (hf 8 (by simp))
     have g9:=(hfk 9).symm.trans (hf 9 (by simp))
     have g10:=(hfk 10).symm.trans (hf 10 (by simp))
     have g11:=(hfk 11).symm.trans (hf 11 (by simp))
     have g12:=(hfk 12).symm.trans (hf 12 (by simp))
     have g13:=(hfk 13).symm.trans (hf 13 (by simp))
     have g14:=(hfk 14).symm.trans (hf 14 (by simp))
     have g15:=(hfk 15).symm.trans (hf 15 (by simp))
     have g16:=(hfk 16).symm.trans (hf 16 (by simp))
     have g17:=(hfk 17).symm.trans (hf 17 (by simp))
     have g18:=(hfk 18).symm.trans (hf 18 (by simp))
     have g19:=(hfk 19).symm.trans (hf 19 (by simp))
     have g20:=(hfk 20).symm.trans (hf 20 (by simp))
     have g21:=(hfk 21).symm.trans (hf 21 (by simp))
     have g22:=(hfk 22).symm.trans (hf 22 (by simp))
     have g23:=(hfk 23).symm.trans (hf 23 (by simp))
     have g52:=(hfk 52).symm.trans (hf 52 (by simp))
     have g53:=(hfk 53).symm.trans (hf 53 (by simp))
     simp only [Act.put,g0,g1,g2,g3,g4,g5,g6,g7,g8,g9,g10,g11,g12,g13,g14,g15,g16,g17,g18,g19,g20,g21,g22,g23,g52,g53]
     clear g0 g1 g2 g3 g4 g5 g6 g7 g8 g9 g10 g11 g12 g13 g14 g15 g16 g17 g18 g19 g20 g21 g22 g23 g52 g53
     clear hr hsz hf hfk r13 r13' r15 hov' hs hX' HC x3 p3 hvo hsX
     go_wp2_with fail
     go_roundw
     case rel=>exact ⟨k+1,ov',j0+1,by go_num,hlt,HNX.out⟩
     case measure=>simp [intOf];omega
  ·have hmk:m=k:=by omega
   subst hmk
   have hTK:xs.take m=xs:=by rw [HM.out];exact List.take_length
   have HWX:=hid (show Wd wr X n key dn dv' (xs.eraseIdx p) from by
    have ho:=HJ.out.obj
    rw [HJ.out.len,hTK] at ho
    refine ⟨⟨ov,HJ.out.hX,qaf ho (Nat.zero_le _)⟩,HJ.out.down,fun x hx=>?_,HW.out.n1,HW.out.n8,Nat.le_trans (List.length_eraseIdx_le _ _) HW.out.len,HW.out.hk⟩
    exact ((HW.out.below hbr nl).shs x (List.mem_of_mem_eraseIdx hx)))
   have HCP2:=hid HWX.out.copied_any
   clear hTK
   go_wp2_with fail
   refine HCP2.out.mono ?_
   rintro e w8 ⟨X2,dv2,ov2,ys,rfl,hcp,hXge2⟩
   have HC8:=hid hcp
   clear hcp
   go_wp2_with fail
   go_ret2
   unfold qj0
   exact ⟨X2,dv2,ys,rfl,HC8.out.wd HWX.out,HC8.out.len,HC8.out.same,hbr.trans (HC8.out.bel.mono hbr.size),fun b hb=>Nat.le_trans hbr.size (HC8.out.down.lt b hb).1⟩
end
section
variable {w:World} {P n key:Nat} {dn:Nat→Bool} {dv:Value} {xs:List RObj}
theorem Wd.spoil_bad (h:Wd w P n key dn dv xs) (i pl:Int) (nm:ByteArray) (u:UInt8) (hi:i<0∨(n:Int)≤i) :
  Calls Tryz.prog 118 #[.pointer (some ⟨P,0,none⟩),.int .i64 i,.string nm,.int .i64 pl,.int .u8 u.toNat] w fun e w'=>e=.returned (.int .i64 13)∧w'=w:=by
 obtain ⟨oa,oc,h1,hrd⟩:=h.hp
 have hn8:=h.n8
 have c0:w.cell? ⟨P,0,none⟩=some (.int .i64 n):=cq h1 rfl
 clear hrd h1 h
 by_cases hi0:i<0
 ·clear hi
  go_enter Tryz.func118,Tryz.ntmps118
  go_wp2_with fail
  go_ret
  exact ⟨rfl,rfl⟩
 ·have hi1:(n:Int)≤i:=by omega
  have hi2:(0:Int)≤i:=by omega
  clear hi
  go_enter Tryz.func118,Tryz.ntmps118
  go_wp2_with fail
  go_ret
  exact ⟨rfl,rfl⟩
theorem Wd.spoil_none (h:Wd w P n key dn dv xs) (i:Nat) (pl:Int) (nm:ByteArray) (u:UInt8) (hi:i<n) (hno:∀j,j<xs.length→(xs[j]!).ob.name≠nm) :
  Calls Tryz.prog 118 #[.pointer (some ⟨P,0,none⟩),.int .i64 i,.string nm,.int .i64 pl,.int .u8 u.toNat] w fun e w'=>e=.returned (.int .i64 9)∧w'=w:=by
 have HF:=hid (h.find_any nm (-1) (fun _=>rfl) (fun k hk e _=>absurd e (hno k hk)))
 obtain ⟨oa,oc,h1,hrd⟩:=h.hp
 have hn8:=h.n8
 have c0:w.cell? ⟨P,0,none⟩=some (.int .i64 n):=cq h1 rfl
 have hi1:(i:Int)<(n:Int):=by omega
 clear hrd h1 h hno
 go_enter Tryz.func118,Tryz.ntmps118
 go_wp2_with fail
 refine HF.out.mono ?_
 rintro e w2 ⟨rfl,hw2⟩
 obtain rfl:=hw2.symm
 go_wp2_with fail
 go_ret
 exact ⟨rfl,rfl⟩
theorem Wd.spoil_place (h:Wd w P n key dn dv xs) (i:Nat) (pl:Int) (nm:ByteArray) (u:UInt8) (hi:i<n) (k:Nat) (hk:k<xs.length) (hnm:(xs[k]!).ob.name=nm) (hbef:∀j,j<xs.length→(xs[j]!).ob.name=nm→j=k) (_hsz:((xs[k]!).sh[i]!).size≤200) (hp:pl<0∨(((xs[k]!).sh[i]!).size:Int)≤pl) :
  Calls Tryz.prog 118 #[.pointer (some ⟨P,0,none⟩),.int .i64 i,.string nm,.int .i64 pl,.int .u8 u.toNat] w fun e w'=>e=.returned (.int .i64 14)∧Below w.heap.size w w':=by
 have HF:=hid (h.find_any nm k (fun hno=>absurd hnm (hno k hk)) (fun j hj e _=>by rw [hbef j hj e]))
 obtain ⟨oa,oc,h1,hrd⟩:=h.hp
 have hn8:=h.n8
 have hl10:=h.len
 have c0:w.cell? ⟨P,0,none⟩=some (.int .i64 n):=cq h1 rfl
 have c3:w.cell? ⟨P,3,none⟩=some (.slice oa xs.length oc):=cq h1 rfl
 have hi1:(i:Int)<(n:Int):=by omega
 obtain ⟨b,o,rfl,hblt,_⟩:=hrd.pos (by rw [qar];omega)
 obtain ⟨_,_,_,_,_,_,_,k6⟩:=qbf hrd k hk (xs[k]!) (getElem!_pos xs k hk)
 have hmem:xs[k]! ∈ xs:=by rw [getElem!_pos xs k hk];exact List.getElem_mem _
 obtain ⟨hsl,hso⟩:=h.shs _ hmem
 obtain ⟨b2,c2,hsa,hsb1,hsb2⟩:=hso.form h.n1
 have k7:w.cell? ⟨b2,i,none⟩=some (.string ((xs[k]!).sh[i]!)):=by
  rw [hsa] at hso
  rw [hso.cellAt i (by omega)]
  exact qaQ (xs[k]!).sh i (by omega)
 rw [hsa] at k6 hso
 obtain ⟨m,hm⟩:∃m,m=xs.length:=⟨_,rfl⟩
 have hkm:(k:Int)<(m:Int):=by omega
 rw [←hm] at c3 hl10
 generalize (xs[k]!).sh[i]! = S at *
 obtain ⟨cap,w1,hcv,hfb,hb1,hs1⟩:=qdK w S
 clear hrd h1 h hbef hnm hmem hsl hso hsa hm
 by_cases hp0:pl<0
 ·clear hp
  go_enter Tryz.func118,Tryz.ntmps118
  go_wp2_with fail
  refine HF.out.mono ?_
  rintro e w2 ⟨rfl,hw2⟩
  obtain rfl:=hw2.symm
  go_wp2_with fail
  go_ret
  exact ⟨rfl,hb1⟩
 ·have hp1:(S.size:Int)≤pl:=by omega
  have hp2:(0:Int)≤pl:=by omega
  clear hp
  go_enter Tryz.func118,Tryz.ntmps118
  go_wp2_with fail
  refine HF.out.mono ?_
  rintro e w2 ⟨rfl,hw2⟩
  obtain rfl:=hw2.symm
  go_wp2_with fail
  go_ret
  exact ⟨rfl,hb1⟩
theorem qfQ (n:Nat) (ys:List RObj) (k:Nat) (y:RObj) (hk:k<ys.length) (hy:y.cells n=(ys[k]!).cells n):qat n (ys.set k y)=qat n ys:=by
 unfold qat
 rw [List.flatMap_def,List.flatMap_def,List.map_set,hy,getElem!_pos ys k hk]
 congr 1
 apply List.ext_getElem
 ·simp
 ·intro j h1 h2
  rw [List.getElem_set]
  split
  ·rename_i e;subst e;simp
  ·rfl
def RObj.shSet (x:RObj) (i:Nat) (S:ByteArray):RObj:=⟨x.ob,x.sa,x.sc,x.sh.set i S⟩
theorem CpJ.shard_set {w w0 w':World} {P X n key B:Nat} {dn:Nat→Bool} {dv0 dv:Value} {xs:List RObj} {ov:Value} {ys:List RObj} (h:CpJ w w0 X n key B dn dv xs xs.length ov ys) (h0:Wd w0 P n key dn dv0 xs) (k i:Nat) (hk:k<xs.length) (b2 c2:Nat) (hsa:Value.slice (ys[k]!).sa n (ys[k]!).sc=.slice (some ⟨b2,0,none⟩) n c2)
  (hb:Below w.heap.size w w') (S:ByteArray):Wd (w'.setCell ⟨b2,i,none⟩ (.string S)) X n key dn dv (ys.set k ((ys[k]!).shSet i S)):=by
 have hW:=(h.wd h0).below hb nl
 have hl:=h.len
 have hsk:=qae (h.shs k hk) hb nl
 have hst:∃cs fz,w'.heap[b2]?=some (.cells cs 9 fz):=by
  rcases hsk.2 with ⟨h8,_⟩|⟨g,cap,cur,h8,_,h4,_⟩
  ·rw [hsa] at h8;cases h8
  ·rw [hsa] at h8
   cases h8
   exact ⟨_,_,h4⟩
 obtain ⟨cs,fz,hb2⟩:=hst
 have hsp:qaa (fun b=>b=b2) w' (w'.setCell ⟨b2,i,none⟩ (.string S)):=qaa.setCell (own:=fun b=>b=b2) (p:=⟨b2,i,none⟩) sr rfl _
 have keep:∀{e:TypeId} {b0 size m:Nat} {v:Value} {l:List Value},e≠9→w'.ownsRow b0 e size v m l→(w'.setCell ⟨b2,i,none⟩ (.string S)).ownsRow b0 e size v m l:=fun h1 ho=>qab ho hsp (fun b hb e=>by rw [e] at hb;exact qaz ho hb2 h1 hb)
 obtain ⟨ov1,h1,h2⟩:=hW.obj
 refine ⟨⟨ov1,hsp.heap h1 (fun e=>by rw [e,hb2] at h1;cases h1),?_⟩,keep (by decide) hW.down,fun x hx=>?_,hW.n1,hW.n8,by rw [List.length_set];exact hW.len,hW.hk⟩
 ·rw [List.length_set,qfQ n ys k ((ys[k]!).shSet i S) (by rw [hl];exact hk) rfl]
  exact keep (by decide) h2
 ·obtain ⟨j,hj,rfl⟩:=List.getElem_of_mem hx
  have hj':j<xs.length:=by rw [List.length_set] at hj;rw [←hl];exact hj
  have hjy:j<ys.length:=by rw [hl];exact hj'
  rw [List.getElem_set]
  have hlen:∀q,q<xs.length→(ys[q]!).sh.length=n:=fun q hq=>((h.wd h0).shs (ys[q]!) (by rw [getElem!_pos ys q (by rw [hl];exact hq)];exact List.getElem_mem _)).1
  split
  ·rename_i e
   subst e
   refine ⟨by show ((ys[k]!).sh.set i S).length=n;rw [List.length_set];exact hlen k hk,?_⟩
   have hst:=((qaf hsk (Nat.zero_le _)))
   rw [hsa] at hst
   have:=(hst.stored i (.string S)).1
   show (w'.setCell ⟨b2,i,none⟩ (.string S)).ownsRow 0 9 1 (.slice (ys[k]!).sa n (ys[k]!).sc) n (((ys[k]!).sh.set i S).map .string)
   rw [hsa,List.map_set]
   exact this
  ·rename_i hne
   have hs:=qaf (qae (h.shs j hj') hb nl) (Nat.zero_le 0 |> fun _=>Nat.zero_le _)
   have hln:=hlen j hj'
   rw [getElem!_pos ys j hjy] at hs hln
   refine ⟨hln,qab hs hsp (fun b hbb e=>?_)⟩
   rw [e] at hbb
   have hkb:(Value.slice (ys[k]!).sa n (ys[k]!).sc).ownBlock=some b2:=by rw [hsa];rfl
   rw [←getElem!_pos ys j hjy] at hbb
   rcases Nat.lt_or_gt_of_ne hne with hlt | hgt
   ·exact h.dis k j hlt hj' b2 hkb hbb
   ·exact h.dis j k hgt hk b2 hbb hkb
def qfN (w:World) (B X n key:Nat) (dn:Nat→Bool) (dv:Value) (ys:List RObj) (k i at':Nat) (u:UInt8) (e:Ending) (w':World):Prop:=e=.returned (.int .i64 0)∧Wd w' X n key dn dv (ys.set k ((ys[k]!).shSet i ⟨(Cof.spoil ((ys[k]!).sh[i]!).data.toList at' u).toArray⟩))∧Below B w w'
def spA (X b o m oc k i b2 n c2 g z cap:Nat) (S:ByteArray):Nat→Value→World→Prop
 | 0,v,_=>v=.pointer (some ⟨X,0,none⟩)
 | 1,v,_=>v=.pointer (some ⟨X,0,none⟩)
 | 2,v,_=>v=.pointer (some ⟨X,3,none⟩)
 | 3,v,_=>v=.slice (some ⟨b,o,none⟩) m oc
 | 4,v,_=>v=.int .i64 k
 | 5,v,_=>v=.pointer (some ⟨b,o+k*7,none⟩)
 | 6,v,_=>v=.pointer (some ⟨b,o+k*7+6,none⟩)
 | 7,v,_=>v=.slice (some ⟨b2,0,none⟩) n c2
 | 8,v,_=>v=.int .i64 i
 | 9,v,_=>v=.slice (some ⟨g,0,none⟩) z cap
 | 10,v,_=>v=.string S
 | 11,v,_=>v=.pointer (some ⟨b2,i,none⟩)
 | _,_,_=>False
theorem qjl (X b o m oc k i b2 n c2 g z cap:Nat) (S:ByteArray) (j:Nat) (v:Value) (w w':World) (h:spA X b o m oc k i b2 n c2 g z cap S j v w) (_:Below w.heap.size w w'):spA X b o m oc k i b2 n c2 g z cap S j v w':=by
 unfold spA at h ⊢
 split at h<;>exact h
theorem CpJ.spoil_ok {w w0:World} {P0 P n key B:Nat} {dn:Nat→Bool} {dv0 dv:Value} {xs0:List RObj} {ov:Value} {xs:List RObj} (hc:CpJ w w0 P n key B dn dv xs0 xs0.length ov xs) (h0:Wd w0 P0 n key dn dv0 xs0) (i pl:Nat) (nm:ByteArray) (u:UInt8) (hi:i<n) (k:Nat) (hk:k<xs.length) (hnm:(xs[k]!).ob.name=nm) (hbef:∀j,j<xs.length→(xs[j]!).ob.name=nm→j=k) (_hsz:((xs[k]!).sh[i]!).size≤200) (hp:pl<((xs[k]!).sh[i]!).size) :
  Calls Tryz.prog 118 #[.pointer (some ⟨P,0,none⟩),.int .i64 i,.string nm,.int .i64 pl,.int .u8 u.toNat] w fun e w'=>qfN w B P n key dn dv xs k i pl u e w':=by
 have h:=hc.wd h0
 have HF:=hid (h.find_any nm k (fun hno=>absurd hnm (hno k hk)) (fun j hj e _=>by rw [hbef j hj e]))
 obtain ⟨oa,oc,h1,hrd⟩:=h.hp
 have hn8:=h.n8
 have hl10:=h.len
 have c0:w.cell? ⟨P,0,none⟩=some (.int .i64 n):=cq h1 rfl
 have c3:w.cell? ⟨P,3,none⟩=some (.slice oa xs.length oc):=cq h1 rfl
 have hi1:(i:Int)<(n:Int):=by omega
 obtain ⟨b,o,rfl,hblt,_⟩:=hrd.pos (by rw [qar];omega)
 obtain ⟨_,_,_,_,_,_,_,k6⟩:=qbf hrd k hk (xs[k]!) (getElem!_pos xs k hk)
 have hmem:xs[k]! ∈ xs:=by rw [getElem!_pos xs k hk];exact List.getElem_mem _
 obtain ⟨hsl,hso⟩:=h.shs _ hmem
 obtain ⟨b2,c2,hsa,hsb1,hsb2⟩:=hso.form h.n1
 have k7:w.cell? ⟨b2,i,none⟩=some (.string ((xs[k]!).sh[i]!)):=by
  rw [hsa] at hso
  rw [hso.cellAt i (by omega)]
  exact qaQ (xs[k]!).sh i (by omega)
 rw [hsa] at k6 hso
 obtain ⟨m,hm⟩:∃m,m=xs.length:=⟨_,rfl⟩
 have hkm:(k:Int)<(m:Int):=by omega
 rw [←hm] at c3 hl10
 have hk0:k<xs0.length:=by rw [←hc.len];exact hk
 have HC:=hid hc
 have H0:=hid h0
 have HSA:=hid hsa
 have HP:=hid h1
 obtain ⟨S,hS⟩:∃S,S=(xs[k]!).sh[i]! := ⟨_,rfl⟩
 rw [←hS] at k7 _hsz hp
 have HS:=hid hS
 obtain ⟨cap,w1,hcv,hfb,hb1,hs1⟩:=qdK w S
 have hpl:(pl:Int)<(S.size:Int):=by omega
 have hpL:pl<S.data.toList.length:=by simpa using hp
 obtain ⟨hg1,hg2⟩:=hfb.at pl hpL
 have hx:=qaY (S.data.toList.getD pl 0) u
 obtain ⟨y,hy⟩:∃y,y=S.data.toList.getD pl 0^^^u:=⟨_,rfl⟩
 rw [←hy] at hx
 have HFB:=hid (show FB (w1.setCell ⟨w.heap.size,pl,none⟩ (.int .u8 y.toNat)) w.heap.size (Cof.spoil S.data.toList pl u) from by have:=hfb.set pl y;rw [hy] at this ⊢;exact this)
 have hb2:Below w.heap.size w (w1.setCell ⟨w.heap.size,pl,none⟩ (.int .u8 y.toNat)):=hb1.setCell nl _
 generalize S.data.toList.getD pl 0=x0 at *
 have HB2L:=hid (show b2<w.heap.size from (hso.lt b2 rfl).2)
 clear hrd h hbef hnm hmem hsl hso hsa hm hS hfb hy h1 hc h0
 go_enter Tryz.func118,Tryz.ntmps118
 go_wp2_with fail
 refine HF.out.mono ?_
 rintro e w2 ⟨rfl,hw2⟩
 obtain rfl:=hw2.symm
 go_wp2_with fail
 obtain ⟨w3,hw3⟩:∃w3,w3=w1.setCell ⟨w.heap.size,pl,none⟩ (.int .u8 y.toNat):=⟨_,rfl⟩
 rw [←hw3] at HFB hb2 ⊢
 have HK:=hid (show w.cell? ⟨P,3,none⟩=some (.slice (some ⟨b,o,none⟩) m oc)∧w.cell? ⟨b,o+k*7+6,none⟩=some (.slice (some ⟨b2,0,none⟩) n c2)∧P<w.heap.size from ⟨c3,k6,cells_lt HP.out⟩)
 obtain ⟨g,hg⟩:∃g,g=w.heap.size:=⟨_,rfl⟩
 obtain ⟨S',hS'⟩:∃S':ByteArray,S'=⟨(Cof.spoil S.data.toList pl u).toArray⟩:=⟨_,rfl⟩
 have HGL:=hid (show g<w3.heap.size by rw [hg,hw3];simp;omega)
 rw [←hg] at HFB ⊢
 have HG:=hid hg
 clear hw3 c0 c3 k6 k7 hcv hb1 hs1 hg1 hg2 hx hg HF
 have HFX:∀a:Act,(∀p∈[((0:Nat),Value.pointer (some ⟨P,0,none⟩)),(1,.int .i64 i),(11,.int .i64 k),(12,.slice (some ⟨g,0,none⟩) S.size cap)],a.tmps.getD p.1 undef=p.2)→a.tmps[0]?.getD undef=.pointer (some ⟨P,0,none⟩)∧a.tmps[1]?.getD undef=.int .i64 i∧a.tmps[11]?.getD undef=.int .i64 k∧a.tmps[12]?.getD undef=.slice (some ⟨g,0,none⟩) S.size cap:=by
  intro a h
  simpa using h
 have HCC:∀w':World,Below w3.heap.size { w3 with drawn:=w3.drawn+1 } w'→w'.cell? ⟨P,3,none⟩=some (.slice (some ⟨b,o,none⟩) m oc)∧w'.cell? ⟨b,o+k*7+6,none⟩=some (.slice (some ⟨b2,0,none⟩) n c2)∧(convert 50 9 (.slice (some ⟨g,0,none⟩) S.size cap)).run Tryz.prog w'=.ok (.string S') w':=by
  intro w' hb
  have hbw:Below w.heap.size w w':=hb2.trans ((Below.drew bl).trans (hb.mono hb2.size))
  refine ⟨(hbw.cell HK.out.2.2).trans HK.out.1,(hbw.cell (by exact hblt)).trans HK.out.2.1,?_⟩
  have hrd:=HFB.out.rd HGL.out
  have hrd':Rd w' (some ⟨g,0,none⟩) (bs (Cof.spoil S.data.toList pl u)):=by
   have h1:Rd ({ w3 with drawn:=w3.drawn+1 }:World) (some ⟨g,0,none⟩) (bs (Cof.spoil S.data.toList pl u)):=hrd
   exact h1.below hb nl
  rw [hS']
  exact qa6 w' (some ⟨g,0,none⟩) cap S.size (Cof.spoil S.data.toList pl u) (by rw [Cof.length_spoil];simp) hrd'
 have HSQ:=hid hS'
 clear hS'
 refine qbp (by kernel_rfl) (fun i=>i+57) (spA P b o m oc k i b2 n c2 g S.size cap S') [(0,.pointer (some ⟨P,0,none⟩)),(1,.int .i64 i),(11,.int .i64 k),(12,.slice (some ⟨g,0,none⟩) S.size cap)] 69 12 [0,1,11,12] (by kernel_rfl) (by kernel_rfl) rfl rfl rfl ?_ (qjl P b o m oc k i b2 n c2 g S.size cap S') ?_ ?_
 ·simp
 ·refine ⟨?_,?_,?_,?_,?_,?_,?_,?_,?_,?_,?_,?_,trivial⟩
  all_goals
   intro a w' hb hf hd
   obtain ⟨f0,f1,f11,f12⟩:=HFX a hf
   obtain ⟨c3,k6,hcv⟩:=HCC w' hb
   simp [spA] at hd
   try (refine .inl ⟨_,w',?_,bl,rfl⟩;go_simp;done)
 ·intro a w' oo' hoo hdf hsz2 hb hf hr
  cases hoo
  have r10:=hr 10 (by decide)
  have r11:=hr 11 (by decide)
  simp [spA] at r10 r11
  have hbw:Below w.heap.size w w':=hb2.trans ((Below.drew bl).trans (hb.mono hb2.size))
  have hwd:=HC.out.shard_set H0.out k i hk0 b2 c2 HSA.out hbw S'
  have hsk:=qae (HC.out.shs k hk0) hbw nl
  rw [HSA.out] at hsk
  have hlk:(xs[k]!).sh.length=n:=((HC.out.wd H0.out).shs (xs[k]!) (by rw [getElem!_pos xs k hk];exact List.getElem_mem _)).1
  have hck:=(hsk.cellAt i (by omega)).trans (qaQ (xs[k]!).sh i (by omega))
  have hfk:=hsk.frozenAt i
  have hbl:=(hsk.lt b2 rfl)
  have hbf:Below B w (w'.setCell ⟨b2,i,none⟩ (.string S')):=(hbw.mono (by have:=HB2L.out;omega)).setCell (by show B≤b2;exact hbl.1) _
  refine qaF 9 (.tmp 68) (.tmp 67) rfl b2 i (.string S') (by simp [Act.eval];exact r11) (by simp [Act.eval];exact r10) rfl rfl (by kernel_rfl) _ hck hfk ?_
  have HWD:=hid hwd
  clear hr hf hwd hsk hck hfk r10 r11
  go_wp2_with fail
  refine bodyPost_ret (v:=.int .i64 0) ?_ rfl (by unfold qfN;refine ⟨rfl,?_,hbf⟩;rw [←HS.out,←HSQ.out];exact HWD.out)
  simp [results,Tryz.results118,go_sem,hsz2]
end
structure Twin (n:Nat) (rss:Nat→List RecV) (X:Nat→List UInt8) (xs:List RObj):Prop where
 obs:xs.map RObj.ob=(rss 0).map RecV.ob
 sh:∀x∈xs,∀i,i<n→(x.sh[i]!).data.toList=(qac (rss i) x.ob.name).x X
section
variable {n:Nat} {rss rss':Nat→List RecV} {X X':Nat→List UInt8} {xs ys:List RObj}
theorem Twin.len (h:Twin n rss X xs):xs.length=(rss 0).length:=by
 have:=congrArg List.length h.obs
 simpa using this
theorem Twin.ob (h:Twin n rss X xs) (k:Nat) (hk:k<xs.length):(xs[k]!).ob=((rss 0)[k]!).ob:=by
 have hk2:k<(rss 0).length:=by rw [←h.len];exact hk
 have h1:=congrArg (fun l=>l[k]?) h.obs
 simp only [List.getElem?_map,List.getElem?_eq_getElem hk,List.getElem?_eq_getElem hk2,Option.map_some] at h1
 rw [getElem!_pos xs k hk,getElem!_pos (rss 0) k hk2]
 exact Option.some.inj h1
theorem Twin.at (h:Twin n rss X xs) (so:Sorted (rss 0)) (nm:ByteArray) (hy:hasName (rss 0) nm=true) (p:Nat) (hp:p=qai (rss 0) nm):p<xs.length∧(xs[p]!).ob=(qac (rss 0) nm).ob∧(xs[p]!).ob.name=nm∧∀j,j<xs.length→(xs[j]!).ob.name=nm→j=p:=by
 subst hp
 have hlt:=qbz hy
 have hl:=h.len
 have h1:=h.ob (qai (rss 0) nm) (by omega)
 refine ⟨by omega,h1,(congrArg Ob.name h1).trans (qaS hy),fun j hj e=>?_⟩
 have h2:=congrArg Ob.name (h.ob j hj)
 have h3:((rss 0)[j]!).name=nm:=h2.symm.trans e
 have h4:=qaS hy
 rcases Nat.lt_trichotomy j (qai (rss 0) nm) with h5 | h5 | h5
 ·have:=so j _ h5 hlt
  rw [h3,h4,qaB.2 rfl] at this
  omega
 ·exact h5
 ·have:=so _ j h5 (by omega)
  rw [h3,h4,qaB.2 rfl] at this
  omega
theorem Twin.no (h:Twin n rss X xs) (so:Sorted (rss 0)) (nm:ByteArray) (hno:hasName (rss 0) nm=false):∀j,j<xs.length→(xs[j]!).ob.name≠nm:=fun j hj e=>by
 have hl:=h.len
 have h2:=congrArg Ob.name (h.ob j hj)
 have h3:((rss 0)[j]!).name=nm:=h2.symm.trans e
 have:hasName (rss 0) nm=true:=(qay so nm).2 ⟨(rss 0)[j]!,by rw [getElem!_pos (rss 0) j (by omega)];exact List.getElem_mem _,h3⟩
 rw [hno] at this
 cases this
theorem Twin.congr (h:Twin n rss X xs) (hl:ys.length=xs.length) (hs:∀j,j<xs.length→(ys[j]!).ob=(xs[j]!).ob∧(ys[j]!).sh=(xs[j]!).sh):Twin n rss X ys:=by
 refine ⟨?_,fun y hy i hi=>?_⟩
 ·rw [←h.obs]
  refine List.ext_getElem (by simp [hl]) fun j h1 h2=>?_
  rw [List.length_map] at h1 h2
  have:=(hs j h2).1
  rw [getElem!_pos ys j h1,getElem!_pos xs j h2] at this
  simpa using this
 ·obtain ⟨j,hj,rfl⟩:=List.getElem_of_mem hy
  have h1:=hs j (by omega)
  rw [←getElem!_pos ys j hj,h1.1,h1.2]
  exact h.sh _ (by rw [getElem!_pos xs j (by omega)];exact List.getElem_mem _) i hi
theorem Twin.other (h:Twin n rss X xs) (hn:1≤n) (hso:∀i,i<n→Sorted (rss i)) (hso':∀i,i<n→Sorted (rss' i)) (hev:∀x,hasName (rss 0) x=true→∀i,i<n→hasName (rss i) x=true) {nm:ByteArray}
  (hm:∀i,i<n→∀r:RecV,r.name≠nm→(r∈rss' i↔r∈rss i)) (hX:∀i,i<n→∀r∈rss i,r.x X'=r.x X) (x:RObj) (hx:x∈xs) (hne:x.ob.name≠nm) (i:Nat) (hi:i<n):(x.sh[i]!).data.toList=(qac (rss' i) x.ob.name).x X':=by
 have h0:hasName (rss 0) x.ob.name=true:=by
  have h1:x.ob∈(rss 0).map RecV.ob:=by rw [←h.obs];exact List.mem_map_of_mem hx
  obtain ⟨r,hr,e⟩:=List.mem_map.1 h1
  exact (qay (hso 0 hn) _).2 ⟨r,hr,congrArg Ob.name e⟩
 obtain ⟨h1,h2⟩:=qas (hev _ h0 i hi)
 have h3:qac (rss' i) x.ob.name=qac (rss i) x.ob.name:=qfA (hso' i hi) ((hm i hi _ (by rw [h2];exact hne)).2 h1) h2
 rw [h.sh x hx i hi,h3,hX i hi _ h1]
theorem qcn:∀a b:List UInt8,Op.bytesLess a b=decide (Lib.compareBytes a b<0)
 | [],[]=>rfl
 | [],_ :: _=>rfl
 | _ :: _,[]=>rfl
 | a :: x,b :: y=>by
  simp only [Op.bytesLess,Lib.compareBytes]
  rw [qcn x y]
  by_cases h:a<b
  ·simp [h]
  ·by_cases h2:b<a
   ·have:¬a=b:=fun e=>by subst e;exact UInt8.lt_irrefl _ h2
    simp [h,h2,this]
   ·have:a=b:=UInt8.le_antisymm (UInt8.not_lt.1 h2) (UInt8.not_lt.1 h)
    subst this
    simp
theorem qex (y:RObj):∀(B A:List RObj),B.foldl (qbi y) (A,true)=(A++B,true)
 | [],A=>by simp
 | b :: B,A=>by
  rw [List.foldl_cons]
  have:qbi y (A,true) b=(A++[b],true):=by simp [qbi]
  rw [this,qex y B (A++[b])]
  simp
theorem qdZ (y:RObj):∀(B A:List RObj),(∀b∈B,Op.bytesLess y.ob.name.toList b.ob.name.toList=false)→B.foldl (qbi y) (A,false)=(A++B,false)
 | [],A,_=>by simp
 | b :: B,A,h=>by
  rw [List.foldl_cons]
  have:qbi y (A,false) b=(A++[b],false):=by simp [qbi,h b (List.mem_cons_self ..)]
  rw [this,qdZ y B (A++[b]) (fun x hx=>h x (List.mem_cons_of_mem _ hx))]
  simp
theorem qka (y:RObj) (A B:List RObj) (hA:∀a∈A,Op.bytesLess y.ob.name.toList a.ob.name.toList=false) (hB:∀b∈B,Op.bytesLess y.ob.name.toList b.ob.name.toList=true):plc y (A++B)=A++y :: B:=by
 unfold plc qbK
 rw [List.foldl_append,qdZ y A [] hA,List.nil_append]
 cases B with
 | nil=>simp
 | cons b B =>
  rw [List.foldl_cons]
  have:qbi y (A,false) b=(A++[y,b],true):=by simp [qbi,hB b (List.mem_cons_self ..)]
  rw [this,qex]
  simp
theorem qdl (a:ByteArray):a.toList=a.data.toList:=by
 have:=bytes_beq a a
 exact ByteArray.toList_eq a
theorem Twin.put (h:Twin n rss X xs) (hn:1≤n) (hso:∀i,i<n→Sorted (rss i)) (hev:∀x,hasName (rss 0) x=true→∀i,i<n→hasName (rss i) x=true) {nm:ByteArray} (hno:∀i,i<n→hasName (rss i) nm=false) {zs:List RecV} {o:Ob} (ho:o.name=nm) (hy:∀i,i<n→(zs[i]!).ob=o)
  (hX:∀i,i<n→∀r∈rss i,r.x X'=r.x X) (y:RObj) (hyo:y.ob=o) (hsh:∀i,i<n→(y.sh[i]!).data.toList=(zs[i]!).x X'):Twin n (putL rss zs n) X' (plc y xs):=by
 have hyn:∀i,i<n→(zs[i]!).name=nm:=fun i hi=>(congrArg Ob.name (hy i hi)).trans ho
 have hso':=fun i hi=>qdS hso hno hyn n i hi
 have h0:putL rss zs n 0=insR (rss 0) (zs[0]!):=by unfold putL;rw [if_pos (show 0<n from hn)]
 obtain ⟨p,hp⟩:∃p,p=qai (rss 0) nm:=⟨_,rfl⟩
 have hsplit:=qes nm (rss 0) (hso 0 hn)
 rw [←hp] at hsplit
 have hnm:y.ob.name=nm:=by rw [hyo];exact ho
 have hmapT:(xs.take p).map RObj.ob=((rss 0).take p).map RecV.ob:=by rw [List.map_take,List.map_take,h.obs]
 have hmapD:(xs.drop p).map RObj.ob=((rss 0).drop p).map RecV.ob:=by rw [List.map_drop,List.map_drop,h.obs]
 have hpl:plc y xs=xs.take p++y :: xs.drop p:=by
  conv=>lhs;rw [←List.take_append_drop p xs]
  refine qka y _ _ (fun a ha=>?_) (fun b hb=>?_)
  ·have h1:a.ob∈((rss 0).take p).map RecV.ob:=by rw [←hmapT];exact List.mem_map_of_mem ha
   obtain ⟨r,hr,e⟩:=List.mem_map.1 h1
   rw [hsplit.1] at hr
   have h2:cmpB r.name nm<0:=by simpa using (List.mem_filter.1 hr).2
   rw [qcn,qdl,qdl,hnm,←congrArg Ob.name e]
   have h3:=qdW nm r.name
   have:¬cmpB nm r.name<0:=by omega
   exact decide_eq_false this
  ·have h1:b.ob∈((rss 0).drop p).map RecV.ob:=by rw [←hmapD];exact List.mem_map_of_mem hb
   obtain ⟨r,hr,e⟩:=List.mem_map.1 h1
   rw [hsplit.2] at hr
   have hr2:=List.mem_filter.1 hr
   have h2:¬cmpB r.name nm<0:=by simpa using hr2.2
   have h4:cmpB r.name nm≠0:=fun e0=>by
    have h5:=hno 0 hn
    rw [(qay (hso 0 hn) nm).2 ⟨r,hr2.1,qaB.1 e0⟩] at h5
    cases h5
   rw [qcn,qdl,qdl,hnm,←congrArg Ob.name e]
   have h3:=qdW nm r.name
   have:cmpB nm r.name<0:=by omega
   exact decide_eq_true this
 refine ⟨?_,fun x hx i hi=>?_⟩
 ·rw [hpl,h0]
  unfold insR
  rw [hyn 0 hn,←hp]
  simp only [List.map_append,List.map_cons]
  rw [hmapT,hmapD,hyo,hy 0 hn]
 ·rw [hpl] at hx
  have hx2:x=y∨x∈xs:=by
   rcases List.mem_append.1 hx with h1 | h1
   ·exact .inr (List.mem_of_mem_take h1)
   ·rcases List.mem_cons.1 h1 with h2 | h2
    ·exact .inl h2
    ·exact .inr (List.mem_of_mem_drop h2)
  by_cases hnx:x.ob.name=nm
  ·rcases hx2 with rfl | h1
   ·rw [hsh i hi,hnx,(qho (hso' i hi) ((qbP _ _ _ _ _).2 (.inl ⟨hi,rfl⟩)) (hyn i hi)).2]
   ·exfalso
    obtain ⟨j,hj,rfl⟩:=List.getElem_of_mem h1
    exact h.no (hso 0 hn) nm (hno 0 hn) j hj (by rw [getElem!_pos xs j hj];exact hnx)
  ·rcases hx2 with rfl | h1
   ·exact absurd hnm hnx
   ·exact h.other hn hso hso' hev (fun i hi r hr=>qfe hyn n i hi r hr) hX x h1 hnx i hi
theorem Twin.del (h:Twin n rss X xs) (hn:1≤n) (hso:∀i,i<n→Sorted (rss i)) (hev:∀x,hasName (rss 0) x=true→∀i,i<n→hasName (rss i) x=true) {nm:ByteArray} (hyes:hasName (rss 0) nm=true):Twin n (delL rss nm n) X (xs.eraseIdx (qai (rss 0) nm)):=by
 obtain ⟨p,hp⟩:∃p,p=qai (rss 0) nm:=⟨_,rfl⟩
 obtain ⟨h1,h2,h3,h4⟩:=h.at (hso 0 hn) nm hyes p hp
 have hlt:=qbz hyes
 rw [←hp] at hlt ⊢
 have h0:delL rss nm n 0=remR (rss 0) nm:=by unfold delL;rw [if_pos (show 0<n from hn)]
 have hrem:remR (rss 0) nm=(rss 0).eraseIdx p:=by
  have hs:=(qbj _).1 (hso 0 hn)
  have e1:rss 0=(rss 0).take p++((rss 0)[p] :: (rss 0).drop (p+1)):=by rw [List.getElem_cons_drop,List.take_append_drop]
  have hnp:((rss 0)[p]).name=nm:=by rw [←getElem!_pos (rss 0) p hlt,hp];exact qaS hyes
  rw [List.eraseIdx_eq_take_drop_succ]
  unfold remR
  conv=>lhs;rw [e1]
  rw [List.filter_append,List.filter_cons,if_neg (by simp [hnp])]
  rw [e1] at hs
  rw [List.pairwise_append] at hs
  obtain ⟨_,hs2,hs3⟩:=hs
  congr 1
  ·refine List.filter_eq_self.2 fun a ha=>?_
   have:=hs3 a ha _ (List.mem_cons_self ..)
   simp only [Bool.not_eq_true',decide_eq_false_iff_not]
   intro e
   rw [e,hnp,qaB.2 rfl] at this
   omega
  ·refine List.filter_eq_self.2 fun a ha=>?_
   have:=(List.pairwise_cons.1 hs2).1 a ha
   simp only [Bool.not_eq_true',decide_eq_false_iff_not]
   intro e
   rw [e,hnp,qaB.2 rfl] at this
   omega
 refine ⟨?_,fun x hx i hi=>?_⟩
 ·rw [h0,hrem,List.eraseIdx_eq_take_drop_succ,List.eraseIdx_eq_take_drop_succ,List.map_append,List.map_append,List.map_take,List.map_take,List.map_drop,List.map_drop,h.obs]
 ·have hxm:x∈xs:=List.mem_of_mem_eraseIdx hx
  have hne:x.ob.name≠nm:=fun e=>by
   obtain ⟨j,hj,e2⟩:=List.getElem_of_mem hx
   rw [List.getElem_eraseIdx] at e2
   rw [List.length_eraseIdx,if_pos h1] at hj
   split at e2
   ·rename_i hjp
    have:=h4 j (by omega) (by rw [getElem!_pos xs j (by omega),e2];exact e)
    omega
   ·rename_i hjp
    have:=h4 (j+1) (by omega) (by rw [getElem!_pos xs (j+1) (by omega),e2];exact e)
    omega
  exact h.other hn hso (fun i hi=>qem hso n i hi) hev (fun i hi r hr=>qeW n i r hr) (fun _ _ _ _=>rfl) x hxm hne i hi
theorem Twin.ref (h:Twin n rss X xs) (hn:1≤n) (hso:∀i,i<n→Sorted (rss i)) (hev:∀x,hasName (rss 0) x=true→∀i,i<n→hasName (rss i) x=true) {nm:ByteArray} (hy0:hasName (rss 0) nm=true) {zs:List RecV} {o o':Ob} (hob:∀i,i<n→(qac (rss i) nm).ob=o) (ho':o'=⟨o.name,o.mode,o.t,o.l,o.size,o.epoch+1⟩)
  (hX:∀i,i<n→∀r∈rss i,r.x X'=r.x X) (y:RObj) (hyo:y.ob=o') (hsh:∀i,i<n→(y.sh[i]!).data.toList=(zs[i]!).x X'):Twin n (refL n rss nm zs (2*n)) X' (xs.set (qai (rss 0) nm) y):=by
 have hyes:=hev nm hy0
 have hl:=fun i hi=>qgg hso hyes (ys:=zs) (2*n) i hi
 have hst:∀i,i<n→qaq n (fun q=>qac (rss q) nm) zs (2*n) i=((qac (rss i) nm).laid (zs[i]!)).turned:=fun i hi=>by unfold qaq;rw [if_pos (by omega)]
 have hto:∀i,i<n→(((qac (rss i) nm).laid (zs[i]!)).turned).ob=o':=fun i hi=>by
  have:=hob i hi
  simp only [RecV.ob] at this
  subst this
  rw [ho']
  rfl
 obtain ⟨p,hp⟩:∃p,p=qai (rss 0) nm:=⟨_,rfl⟩
 obtain ⟨h1,h2,h3,h4⟩:=h.at (hso 0 hn) nm hy0 p hp
 have hlt:=qbz hy0
 have hyn:y.ob.name=nm:=by
  rw [hyo,ho']
  show o.name=nm
  rw [←hob 0 hn]
  exact qaS hy0
 rw [←hp] at hlt ⊢
 refine ⟨?_,fun x hx i hi=>?_⟩
 ·have:refL n rss nm zs (2*n) 0=(rss 0).set p (((qac (rss 0) nm).laid (zs[0]!)).turned):=by
   unfold refL
   rw [hst 0 hn,←hp]
  rw [this,List.map_set,List.map_set,h.obs,hyo,hto 0 hn]
 ·obtain ⟨j,hj,rfl⟩:=List.getElem_of_mem hx
  rw [List.length_set] at hj
  rw [List.getElem_set]
  split
  ·rw [hsh i hi,hyn,(hl i hi).2,hst i hi]
   rfl
  ·rename_i hne
   refine h.other hn hso (fun i hi=>qcX hso hyes (2*n) i hi) hev (fun i hi r hr=>qeX hso hyes (ys:=zs) (2*n) i hi r hr) hX _ (List.getElem_mem _) (fun e=>hne ?_) i hi
   exact (h4 j hj (by rw [getElem!_pos xs j hj];exact e)).symm
theorem Twin.spoil (h:Twin n rss X xs) (hn:1≤n) (hso:∀i,i<n→Sorted (rss i)) (hev:∀x,hasName (rss 0) x=true→∀i,i<n→hasName (rss i) x=true) {nm:ByteArray} (hy0:hasName (rss 0) nm=true) (i0:Nat) (hi0:i0<n) (q:Nat) (u:UInt8) (p:Nat) (hp:p=qai (rss 0) nm) (hlen:∀x∈xs,x.sh.length=n)
  (hap:∀i j,i<n→j<n→∀r∈rss i,∀q∈rss j,blkNo r.sa=blkNo q.sa→i=j∧r=q) :
  Twin n rss (qbS X (blkNo (qac (rss i0) nm).sa) q u) (xs.set p ((xs[p]!).shSet i0 ⟨(Cof.spoil ((xs[p]!).sh[i0]!).data.toList q u).toArray⟩)):=by
 obtain ⟨h1,h2,h3,h4⟩:=h.at (hso 0 hn) nm hy0 p hp
 have hm0:=qas (hev nm hy0 i0 hi0)
 refine ⟨?_,fun x hx i hi=>?_⟩
 ·rw [List.map_set,←h.obs]
  have:((xs[p]!).shSet i0 ⟨(Cof.spoil ((xs[p]!).sh[i0]!).data.toList q u).toArray⟩).ob=(xs.map RObj.ob)[p]'(by simpa using h1):=by
   rw [List.getElem_map,getElem!_pos xs p h1];rfl
  rw [this,List.set_getElem_self]
 ·obtain ⟨j,hj,rfl⟩:=List.getElem_of_mem hx
  rw [List.length_set] at hj
  rw [List.getElem_set]
  have hxj:∀k,k<xs.length→hasName (rss i) (xs[k]!).ob.name=true:=fun k hk=>by
   refine hev _ ?_ i hi
   have h5:(xs[k]!).ob∈(rss 0).map RecV.ob:=by rw [←h.obs,getElem!_pos xs k hk];exact List.mem_map_of_mem (List.getElem_mem _)
   obtain ⟨r,hr,e⟩:=List.mem_map.1 h5
   exact (qay (hso 0 hn) _).2 ⟨r,hr,congrArg Ob.name e⟩
  split
  ·rename_i e
   subst e
   have hpm:xs[p]! ∈ xs:=by rw [getElem!_pos xs p h1];exact List.getElem_mem _
   have hl:=hlen _ hpm
   show (((xs[p]!).sh.set i0 _)[i]!).data.toList=(qac (rss i) (xs[p]!).ob.name).x _
   rw [getElem!_pos _ i (by rw [List.length_set,hl];exact hi),List.getElem_set,h3]
   have hold:=h.sh _ hpm i hi
   rw [h3] at hold
   split
   ·rename_i e
    subst e
    show Cof.spoil _ _ _=_
    unfold RecV.x qbS
    rw [if_pos rfl,hold]
    rfl
   ·rename_i hne
    rw [←getElem!_pos _ i (by rw [hl];exact hi),hold]
    unfold RecV.x qbS
    rw [if_neg]
    intro e
    exact hne (hap i i0 hi hi0 _ (qas (hev nm hy0 i hi)).1 _ hm0.1 e).1.symm
  ·rename_i hne
   have hjm:xs[j]∈xs:=List.getElem_mem _
   have hjn:=hxj j hj
   rw [getElem!_pos xs j hj] at hjn
   have hjr:=qas hjn
   rw [h.sh _ hjm i hi]
   unfold RecV.x qbS
   rw [if_neg]
   intro e
   obtain ⟨e1,e2⟩:=hap i i0 hi hi0 _ hjr.1 _ hm0.1 e
   have e3:(xs[j]).ob.name=nm:=by rw [←hjr.2,e2,hm0.2]
   exact hne (h4 j hj (by rw [getElem!_pos xs j hj];exact e3)).symm
end
end Go.Proofs.YtcegdgmbponapaaGreatDoor
namespace Cof
theorem qgb (v tape:List UInt8) (gs ts G g j:Nat) (hg:g<G) (hj:j<gs+ts):knownAt v (tape.take (ts*G)) gs ts g j=knownAt v tape gs ts g j:=by
 unfold knownAt
 split
 ·rfl
 ·rename_i h
  have h1:(g+1)*ts≤G*ts:=Nat.mul_le_mul_right ts hg
  rw [Nat.succ_mul,Nat.mul_comm G ts] at h1
  rw [List.getD_eq_getElem?_getD,List.getElem?_take,if_pos (by omega),←List.getD_eq_getElem?_getD]
theorem qg4 (v tape:List UInt8) (mode t l i g G:Nat) (hg:g<G):pieceAt v (tape.take (tsize mode t*G)) mode t l i g=pieceAt v tape mode t l i g:=by
 rw [pieceAt_itp',pieceAt_itp']
 congr 1
 apply List.map_congr_left
 intro j hj
 exact qgb v tape _ _ G g j hg (List.mem_range.1 hj)
theorem split_row' (v tape:List UInt8) (mode t l n i:Nat) (hi:i<n) (hg:0<gsize mode t l) (ht:tsize mode t*ngroups mode t l v.length≤tape.length) :
  (split v mode t l n tape).getD i []=(List.range (ngroups mode t l v.length)).map (pieceAt v tape mode t l i):=by
 have e:split v mode t l n tape=split v mode t l n (tape.take (tsize mode t*ngroups mode t l v.length)):=by
  unfold split;rw [List.take_take,Nat.min_self]
 rw [e,split_row _ _ _ _ _ _ _ hi hg (by rw [List.length_take];omega)]
 apply List.map_congr_left
 intro g hg'
 exact qg4 v tape mode t l i g _ (List.mem_range.1 hg')
end Cof
namespace Go.Proofs.YtcegdgmbponapaaGreatDoor
open Go.RowKit
attribute [local go_sem ↓] Go.wp_at_zero Go.wp_at_succ
theorem qfK {w:World} {base k:Nat} {x:Value} {F:Nat→UInt8 × UInt8} {xs ys:List UInt8} (h:w.ownsRow base 311 2 x k (pts F k)) (hk:0<k) (hl:xs.length=k) (hF:∀j,j<k→F j=(xs.getD j 0,ys.getD j 0)) :
  ∃a c,x=.slice a k c∧PtRd w a xs ys:=by
 obtain ⟨g,c,rfl,h1,h2⟩:=h.form hk
 refine ⟨_,_,rfl,fun i hi=>⟨g,0,rfl,h2,?_,?_⟩⟩
 ·rw [Nat.zero_add,h.cellAt (i*2) (by omega),(qlo F k i (by omega)).1,hF i (by omega)]
 ·rw [Nat.zero_add,h.cellAt (i*2+1) (by omega),(qlo F k i (by omega)).2,hF i (by omega)]
theorem qir (rows:List (List UInt8)) (i:Nat) (h:i<rows.length):strs (rows.take (i+1))=strs (rows.take i)++[str (rows.getD i [])]:=by
 rw [take_snoc rows i [] h];simp [strs]
theorem qdQ (mode t l n:Nat) (v tape:ByteArray) (w:World) (hp:qaj mode t l n) (hv:v.size≤60) (htp:Cof.tsize mode t*Cof.ngroups mode t l v.size≤tape.size) :
  Calls Tryz.prog 202 #[.string v,.agg #[.int .i64 mode,.int .i64 t,.int .i64 l],.int .i64 n,.string tape] w fun e w' =>
   ∃r,e=.returned r∧w'.ownsRow w.heap.size 9 1 r n (strs (Cof.split v.data.toList mode t l n tape.data.toList))∧Below w.heap.size w w':=by
 obtain ⟨iS,hiS,hs0,hs1,hs2⟩:=info_parts Tryz.infoS
 obtain ⟨iU,hiU,hu0,hu1,hu2⟩:=info_parts Tryz.info5
 have hng:=qao hp v.size hv
 have hn8:=hp.n8
 obtain ⟨hgs1,hgs8,hts8⟩:=qcB hp
 have HROW:=hid (fun i (hi:i<n)=>Cof.split_row' v.data.toList tape.data.toList mode t l n i hi (by omega) htp)
 have HRL:=hid (qbm v.data.toList mode t l n tape.data.toList)
 have e1:v.data.toList.length=v.size:=rfl
 rw [e1] at HROW
 obtain ⟨N,hN⟩:∃N,N=Cof.gsize mode t l+Cof.tsize mode t:=⟨_,rfl⟩
 have hN1:1≤N:=by omega
 have hN16:N≤16:=by omega
 have hXL:(Cof.groupAt mode t l++Cof.tapeAt mode t).length=N:=by rw [List.length_append,Cof.groupAt_length,Cof.tapeAt_length,hN]
 have HKN:=hid (fun g (hg:g<Cof.ngroups mode t l v.size) w=>show Calls Tryz.prog 237 #[.string v,.agg #[.int .i64 mode,.int .i64 t,.int .i64 l],.string tape,.int .i64 g] w (fun e w'=>∃a c,e=.returned (.slice a N c)∧PtRd w' a (Cof.groupAt mode t l++Cof.tapeAt mode t) ((List.range N).map (Cof.knownAt v.data.toList tape.data.toList (Cof.gsize mode t l) (Cof.tsize mode t) g))∧Below w.heap.size w w') by
  refine (qiF mode t l n g v tape w hp hv hg htp).mono ?_
  rintro e w' ⟨r,rfl,hown,hb⟩
  rw [←hN] at hown
  obtain ⟨a,c,rfl,hrd⟩:=qfK (xs:=Cof.groupAt mode t l++Cof.tapeAt mode t) (ys:=(List.range N).map (Cof.knownAt v.data.toList tape.data.toList (Cof.gsize mode t l) (Cof.tsize mode t) g)) hown hN1 hXL (fun j hj=>by simp [ptF,hj])
  exact ⟨a,c,rfl,hrd,hb⟩)
 have hND:=Cof.known_nodup mode t l (Nat.le_trans hp.tn hp.n8) (by have h1:=hp.t1;rcases hp.md with ⟨_,h⟩|⟨_,h⟩<;>omega)
 have HAT:=hid (fun a c i g w hr=>show Calls Tryz.prog 209 #[.slice a N c,.int .u8 (UInt8.ofNat (1+i)).toNat] w (fun e w'=>e=.returned (.int .u8 (Cof.pieceAt v.data.toList tape.data.toList mode t l i g).toNat)∧Below w.heap.size w w') by
  have h:=qgH a c N (Cof.groupAt mode t l++Cof.tapeAt mode t) ((List.range N).map (Cof.knownAt v.data.toList tape.data.toList (Cof.gsize mode t l) (Cof.tsize mode t) g)) (UInt8.ofNat (1+i)) w hXL.symm hr hND (by omega)
  rw [hN,←Cof.pieceAt_itp'] at h
  rw [hN]
  exact h)
 have HGR:=hid (fun w=>qcj mode t l n v.size w hp hv)
 generalize (fun g=>(List.range N).map (Cof.knownAt v.data.toList tape.data.toList (Cof.gsize mode t l) (Cof.tsize mode t) g))=ys at *
 clear hN hp htp hgs1 hgs8 hts8 e1 hXL hND
 generalize Cof.split v.data.toList mode t l n tape.data.toList=rows at *
 generalize Cof.ngroups mode t l v.size=G at *
 generalize Cof.pieceAt v.data.toList tape.data.toList mode t l=P at *
 generalize Cof.groupAt mode t l++Cof.tapeAt mode t=xs at *
 generalize (Cof.gsize mode t l)=gs at *
 generalize (Cof.tsize mode t)=ts at *
 obtain ⟨w0,hw0⟩:∃w0,w0=w.alloc (.cells #[.int .i64 mode,.int .i64 t,.int .i64 l] 29):=⟨_,rfl⟩
 have p0:w0.cell? ⟨w.heap.size,0,none⟩=some (.int .i64 mode):=by rw [hw0];simp
 have p1:w0.cell? ⟨w.heap.size,1,none⟩=some (.int .i64 t):=by rw [hw0];simp
 have p2:w0.cell? ⟨w.heap.size,2,none⟩=some (.int .i64 l):=by rw [hw0];simp
 have hz0:w.heap.size<w0.heap.size:=by rw [hw0];simp
 have hb0:Below w.heap.size w w0:=by rw [hw0];exact (Below.refl _ _).alloc nl _
 go_enter Tryz.func202,Tryz.ntmps202
 go_wp2_with fail
 rw [←hw0]
 clear hw0
 go_loopw [9,10] (fun o i wr=>∃k:Nat,k≤n∧i=.int .i64 k∧wr.ownsRow w0.heap.size 9 1 o k (strs (rows.take k))∧Below w0.heap.size w0 wr)
  (fun _ i _=>n-(intOf i).toNat)
 case atStart=>exact ⟨0,Nat.zero_le _,rfl,World.ownsRow_nil _ _ _ _,bl⟩
 case round =>
  obtain ⟨k,hk,rfl,hown,hbel⟩:=hrel
  have hzb:=hbel.size
  have HO:=hid hown
  clear hown
  by_cases hlt:k<n
  ·obtain ⟨a,ha⟩:∃a,a=UInt8.ofNat (1+k):=⟨_,rfl⟩
   have hai:(k:Int)+1=(a.toNat:Int):=by rw [ha,←qd2 _ (by omega)];omega
   have ha6:(a.toNat:Int)≤255:=by have:=a.toNat_lt;omega
   have HA:=hid (fun a' c g w hr=>HAT.out a' c k g w hr)
   rw [←ha] at HA
   have HSN:=hid (show strs (rows.take (k+1))=strs (rows.take k)++[str ((List.range G).map (P k))] by
    rw [qir rows k (by rw [HRL.out];exact hlt),HROW.out k hlt])
   have hk1:(k:Int)<(n:Int):=by omega
   generalize P k=p at *
   generalize strs (rows.take k)=X at *
   clear ha
   obtain ⟨wo,rfl⟩:∃wo,wo=wr:=⟨_,rfl⟩
   obtain ⟨o,rfl⟩:∃o,o=u9:=⟨_,rfl⟩
   go_wp2_with fail
   go_loopw [11,12] (fun b q wq=>∃g:Nat,g≤G∧q=.int .i64 g∧wq.ownsRow wo.heap.size 5 1 b g (bs ((List.range g).map p))∧Below wo.heap.size wo wq)
    (fun _ q _=>G-(intOf q).toNat)
   case atStart=>exact ⟨0,Nat.zero_le _,rfl,World.ownsRow_nil _ _ _ _,bl⟩
   case round =>
    obtain ⟨g,hg,rfl,hownb,hbq⟩:=hrel
    have hzq:=hbq.size
    have hb0q:Below w0.heap.size w0 wr:=hbel.trans (hbq.mono hzb)
    have c0:wr.cell? ⟨w.heap.size,0,none⟩=some (.int .i64 mode):=(hb0q.cell (by exact hz0)).trans p0
    have c1:wr.cell? ⟨w.heap.size,1,none⟩=some (.int .i64 t):=(hb0q.cell (by exact hz0)).trans p1
    have c2:wr.cell? ⟨w.heap.size,2,none⟩=some (.int .i64 l):=(hb0q.cell (by exact hz0)).trans p2
    have HB:=hid hownb
    clear hownb
    by_cases hgl:g<G
    ·have hg1:(g:Int)<(G:Int):=by omega
     have HSB:=hid (show bs ((List.range (g+1)).map p)=bs ((List.range g).map p)++[.int .u8 ((p g).toNat:Int)] by simp [bs,List.range_succ])
     generalize bs ((List.range g).map p)=Y at *
     go_wp2_with (first
      | (go_at_call 206;refine (HGR.out _).mono ?_;rintro e wg ⟨rfl,hbg⟩;have hzg:=hbg.size;have x0:wg.cell? ⟨w.heap.size,0,none⟩=some (.int .i64 mode):=(hbg.cell (by show w.heap.size<wr.heap.size;omega)).trans c0;have x1:wg.cell? ⟨w.heap.size,1,none⟩=some (.int .i64 t):=(hbg.cell (by show w.heap.size<wr.heap.size;omega)).trans c1;have x2:wg.cell? ⟨w.heap.size,2,none⟩=some (.int .i64 l):=(hbg.cell (by show w.heap.size<wr.heap.size;omega)).trans c2)
      | (go_at_call 237;refine (HKN.out g hgl _).mono ?_;rintro e wk ⟨aK,cK,rfl,hrk,hbk⟩;have hzk:=hbk.size)
      | (go_at_call 209;refine (HA.out aK cK g _ hrk).mono ?_;rintro e wa ⟨rfl,hba⟩;have hza:=hba.size;have hbra:Below wr.heap.size wr wa:=(hbg.trans (hbk.mono hzg)).trans (hba.mono (by omega));have HBA:=hid (qae HB.out hbra nl))
      | (at_builtin;refine wpList_append_lies _ rfl (.tmp 38) (.tmp 40) 50 rfl wo.heap.size 5 iU (.int .u8 0) 1 1 Tryz.underlying50 hiU hu0 hu1 hu2 rfl (by decide) u11 _ Y rfl (HBA.out.alloc _) ⟨wa.heap.size,0,none⟩ 1 1 [.int .u8 (p g).toNat] rfl rfl (World.news_of_block (cs:=#[.int .u8 (p g).toNat]) (t:=5) (fr:=(0,0)) (heap_alloc_new wa _)) (by simp [Value.oneCell']) (by decide) (by unfold maxLen;omega) (by omega) (by simp<;>omega) (wa.heap.size+1) (by simp) ?_;intro g5 c5 w5 hown5 hgrow5 hat5 _;have HO5:=hid hown5;have hb5:Below wo.heap.size wo w5:=((hbq.trans (hbra.mono hzq)).alloc (by omega) _).grown hgrow5 (by simp<;>omega) (fun b hb=>(HB.out.lt b hb).1);rw [←HSB.out] at HO5;clear hown5 hgrow5 hat5))
     go_roundw
     case rel=>exact ⟨g+1,by omega,by go_num,HO5.out,hb5⟩
     case measure=>simp [intOf];omega
    ·have hg1:¬(g:Int)<(G:Int):=by omega
     have hgG:g=G:=by omega
     rw [hgG] at HB
     obtain ⟨aB,cB,rfl,hrB⟩:=qaw HB.out
     have hps:str ((List.range G).map p)=.string ⟨((List.range G).map p).toArray⟩:=rfl
     rw [hps] at HSN
     have HPL:=hid (show G=((List.range G).map p).length by simp)
     generalize (List.range G).map p=ps at *
     obtain ⟨S,hS⟩:∃S:ByteArray,S=⟨ps.toArray⟩:=⟨_,rfl⟩
     rw [←hS] at HSN
     have HSS:=hid hS
     clear hgG hps hS
     go_wp2_with (first
      | (go_at_call 206;refine (HGR.out _).mono ?_;rintro e wg ⟨rfl,hbg⟩;have hzg:=hbg.size;have hog:Below wo.heap.size wo wg:=hbq.trans (hbg.mono hzq);have hcv:=qa6 wg aB cB G ps HPL.out (hrB.below hbg nl);rw [←HSS.out] at hcv;have HOG:=hid (qae HO.out hog nl))
      | (at_builtin;refine wpList_append_lies _ rfl (.tmp 42) (.tmp 45) 30 rfl w0.heap.size 9 iS (.string ByteArray.empty) 1 16 Tryz.underlying30 hiS hs0 hs1 hs2 rfl (by decide) o _ X rfl (HOG.out.alloc _) ⟨wg.heap.size,0,none⟩ 1 1 [.string S] rfl rfl (World.news_of_block (cs:=#[.string S]) (t:=9) (fr:=(0,0)) (heap_alloc_new wg _)) (by simp [Value.oneCell']) (by decide) (by unfold maxLen;omega) (by omega) (by simp<;>omega) (wg.heap.size+1) (by simp) ?_;intro g5 c5 w5 hown5 hgrow5 hat5 _;have HO5:=hid hown5;have hb5:Below w0.heap.size w0 w5:=((hbel.trans (hog.mono hzb)).alloc (by omega) _).grown hgrow5 (by simp<;>omega) (fun b hb=>(HO.out.lt b hb).1);rw [←HSN.out] at HO5;clear hown5 hgrow5 hat5))
     go_roundw
     case rel=>exact ⟨k+1,by omega,by go_num,HO5.out,hb5⟩
     case measure=>simp [intOf];omega
  ·have hkn:k=n:=by omega
   have hk1:¬(k:Int)<(n:Int):=by omega
   rw [hkn,List.take_of_length_le (by rw [HRL.out];exact Nat.le_refl _)] at HO
   clear hkn
   go_wp2
   go_ret
   exact ⟨_,rfl,qaf HO.out (by omega),hb0.trans (hbel.mono (by omega))⟩
end Go.Proofs.YtcegdgmbponapaaGreatDoor