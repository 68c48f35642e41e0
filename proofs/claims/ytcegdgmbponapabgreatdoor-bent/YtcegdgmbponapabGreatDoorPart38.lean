/-
  The values of a coffer with several objects.
  cofferkeep: values by their names; without, behind.
  cofferkeep.behind: what a step that is done makes of the values.
  cofferkeep.has: are these the values?
-/
import Derived.Test.YtcegdgmbponapabGreatDoorPart37
namespace Go.Proofs.YtcegdgmbponapabGreatDoor
open Go.RowKit
def ValAt (key n:Nat) (o:Ob) (xs:Nat→List UInt8) (v:ByteArray):Prop :=
 o.size=v.size∧∃tape:List UInt8,tape.length=Cof.tsize o.mode o.t*Cof.ngroups o.mode o.t o.l v.size∧∀i,i<n→xs i=shardOf key o n i ((Cof.split v.data.toList o.mode o.t o.l n tape).getD i [])
structure Vals (key n:Nat) (rss:Nat→List RecV) (X:Nat→List UInt8) (V:ByteArray→Option ByteArray):Prop where
 yes:∀nm,hasName (rss 0) nm=true→∃v,V nm=some v∧ValAt key n (recOf (rss 0) nm).ob (fun i=>(recOf (rss i) nm).x X) v
 no:∀nm,hasName (rss 0) nm=false→V nm=none
theorem ValAt.congr {key n:Nat} {o:Ob} {xs ys:Nat→List UInt8} {v:ByteArray} (h:ValAt key n o xs v) (e:∀i,i<n→ys i=xs i):ValAt key n o ys v:=by
 obtain ⟨h1,tape,h2,h3⟩:=h
 exact ⟨h1,tape,h2,fun i hi=>(e i hi).trans (h3 i hi)⟩
section
variable {key n:Nat} {rss rss':Nat→List RecV} {X X':Nat→List UInt8} {V:ByteArray→Option ByteArray}
theorem Vals.alike (h:Vals key n rss X V) (hn:1≤n) (hy:∀nm,hasName (rss 0) nm=true→∀i,i<n→hasName (rss i) nm=true) (ha:∀i,i<n→Alike X' X (rss' i) (rss i)):Vals key n rss' X' V:=by
 refine ⟨fun nm hnm=>?_,fun nm hnm=>h.no nm (by rw [←(ha 0 hn).has nm];exact hnm)⟩
 have h0:hasName (rss 0) nm=true:=by rw [←(ha 0 hn).has nm];exact hnm
 obtain ⟨v,h1,h2⟩:=h.yes nm h0
 have hr:∀i,i<n→(recOf (rss' i) nm).ct X'=(recOf (rss i) nm).ct X:=fun i hi=>(ha i hi).rec (by rw [(ha i hi).has nm];exact hy nm h0 i hi)
 refine ⟨v,h1,?_⟩
 rw [(ct_parts (hr 0 hn)).1]
 exact h2.congr fun i hi=>(ct_parts (hr i hi)).2.1
theorem Vals.other {nm x:ByteArray} (h:Vals key n rss X V) (hn:1≤n) (hso:∀i,i<n→Sorted (rss i)) (hso':∀i,i<n→Sorted (rss' i)) (hev:∀x,hasName (rss 0) x=true→∀i,i<n→hasName (rss i) x=true)
  (hm:∀i,i<n→∀r:RecV,r.name≠nm→(r∈rss' i↔r∈rss i)) (hX:∀i,i<n→∀r∈rss i,r.x X'=r.x X) (hx:x≠nm) :
  (hasName (rss' 0) x=true→∃v,V x=some v∧ValAt key n (recOf (rss' 0) x).ob (fun i=>(recOf (rss' i) x).x X') v)∧(hasName (rss' 0) x=false→V x=none):=by
 have hl:=fun i hi=>look_same (hso i hi) (hso' i hi) (nm:=x) (fun r hr=>(hm i hi r (by rw [hr];exact hx)).symm)
 refine ⟨fun hy=>?_,fun hno=>h.no x (by rw [(hl 0 hn).1];exact hno)⟩
 have h0:hasName (rss 0) x=true:=by rw [(hl 0 hn).1];exact hy
 obtain ⟨v,h1,h2⟩:=h.yes x h0
 refine ⟨v,h1,?_⟩
 rw [←(hl 0 hn).2 h0]
 refine h2.congr fun i hi=>?_
 have hi':=hev x h0 i hi
 rw [←(hl i hi).2 hi']
 exact hX i hi _ (recOf_mem hi').1
def upd (V:ByteArray→Option ByteArray) (nm:ByteArray) (v:Option ByteArray) (x:ByteArray):Option ByteArray:=if x=nm then v else V x
theorem upd_self (nm:ByteArray) (v:Option ByteArray):upd V nm v nm=v:=if_pos rfl
theorem upd_ne {nm x:ByteArray} (v:Option ByteArray) (h:x≠nm):upd V nm v x=V x:=if_neg h
theorem Vals.put (h:Vals key n rss X V) (hn:1≤n) (hso:∀i,i<n→Sorted (rss i)) (hev:∀x,hasName (rss 0) x=true→∀i,i<n→hasName (rss i) x=true) {nm:ByteArray} (hno:∀i,i<n→hasName (rss i) nm=false) {ys:List RecV} {o:Ob} {v:ByteArray} (ho:o.name=nm) (hy:∀i,i<n→(ys[i]!).ob=o)
  (hX:∀i,i<n→∀r∈rss i,r.x X'=r.x X) (hv:ValAt key n o (fun i=>(ys[i]!).x X') v):Vals key n (putL rss ys n) X' (upd V nm (some v)):=by
 have hyn:∀i,i<n→(ys[i]!).name=nm:=fun i hi=>(congrArg Ob.name (hy i hi)).trans ho
 have hso':=fun i hi=>putL_sorted hso hno hyn n i hi
 have hl:∀i,i<n→hasName (putL rss ys n i) nm=true∧recOf (putL rss ys n i) nm=ys[i]! := fun i hi=>look_of (hso' i hi) ((putL_mem _ _ _ _ _).2 (.inl ⟨hi,rfl⟩)) (hyn i hi)
 have ht:=fun x (hx:x≠nm)=>h.other hn hso hso' hev (fun i hi r hr=>putL_other hyn n i hi r hr) hX hx
 refine ⟨fun x hx=>?_,fun x hx=>?_⟩
 ·by_cases e:x=nm
  ·subst e
   refine ⟨v,upd_self x _,?_⟩
   rw [(hl 0 hn).2,hy 0 hn]
   exact hv.congr fun i hi=>by rw [(hl i hi).2]
  ·rw [upd_ne _ e]
   exact (ht x e).1 hx
 ·by_cases e:x=nm
  ·subst e
   rw [(hl 0 hn).1] at hx
   cases hx
  ·rw [upd_ne _ e]
   exact (ht x e).2 hx
theorem Vals.del (h:Vals key n rss X V) (hn:1≤n) (hso:∀i,i<n→Sorted (rss i)) (hev:∀x,hasName (rss 0) x=true→∀i,i<n→hasName (rss i) x=true) {nm:ByteArray}:Vals key n (delL rss nm n) X (upd V nm none):=by
 have ht:=fun x (hx:x≠nm)=>h.other hn hso (fun i hi=>delL_sorted hso n i hi) hev (fun i hi r hr=>delL_other n i r hr) (fun _ _ _ _=>rfl) hx
 refine ⟨fun x hx=>?_,fun x hx=>?_⟩
 ·by_cases e:x=nm
  ·subst e
   rw [show delL rss x n 0=remR (rss 0) x by unfold delL;rw [if_pos (by omega)],remR_no (hso 0 hn) x] at hx
   cases hx
  ·rw [upd_ne _ e]
   exact (ht x e).1 hx
 ·by_cases e:x=nm
  ·subst e
   exact upd_self x _
  ·rw [upd_ne _ e]
   exact (ht x e).2 hx
theorem Vals.ref (h:Vals key n rss X V) (hn:1≤n) (hso:∀i,i<n→Sorted (rss i)) (hev:∀x,hasName (rss 0) x=true→∀i,i<n→hasName (rss i) x=true) {nm:ByteArray} (hy0:hasName (rss 0) nm=true) {ys:List RecV} {o o':Ob} {v:ByteArray} (hob:∀i,i<n→(recOf (rss i) nm).ob=o) (ho':o'=⟨o.name,o.mode,o.t,o.l,o.size,o.epoch+1⟩)
  (hX:∀i,i<n→∀r∈rss i,r.x X'=r.x X) (hV:V nm=some v) (hv:ValAt key n o' (fun i=>(ys[i]!).x X') v):Vals key n (refL n rss nm ys (2*n)) X' V:=by
 have hyes:=hev nm hy0
 have hl:=fun i hi=>refL_look hso hyes (ys:=ys) (2*n) i hi
 have hst:∀i,i<n→refState n (fun q=>recOf (rss q) nm) ys (2*n) i=((recOf (rss i) nm).laid (ys[i]!)).turned:=fun i hi=>by unfold refState;rw [if_pos (by omega)]
 have hto:∀i,i<n→(((recOf (rss i) nm).laid (ys[i]!)).turned).ob=o':=fun i hi=>by
  have:=hob i hi
  simp only [RecV.ob] at this
  subst this
  rw [ho']
  rfl
 have ht:=fun x (hx:x≠nm)=>h.other hn hso (fun i hi=>refL_sorted hso hyes (2*n) i hi) hev (fun i hi r hr=>refL_other hso hyes (ys:=ys) (2*n) i hi r hr) hX hx
 refine ⟨fun x hx=>?_,fun x hx=>?_⟩
 ·by_cases e:x=nm
  ·subst e
   refine ⟨v,hV,?_⟩
   rw [(hl 0 hn).2,hst 0 hn,hto 0 hn]
   refine hv.congr fun i hi=>?_
   rw [(hl i hi).2,hst i hi]
   rfl
  ·exact (ht x e).1 hx
 ·by_cases e:x=nm
  ·subst e
   rw [(hl 0 hn).1] at hx
   cases hx
  ·exact (ht x e).2 hx
end
theorem ValAt.good {key n i:Nat} {o:Ob} {x v tape:List UInt8} (hp:IsPlan o.mode o.t o.l n) (hi:i<n) (ht:Cof.tsize o.mode o.t*Cof.ngroups o.mode o.t o.l v.length≤tape.length) (hz:o.size=v.length) (hx:x=shardOf key o n i ((Cof.split v o.mode o.t o.l n tape).getD i [])) :
  Cof.Good key (Cof.head o.mode o.t o.l n i o.epoch o.size o.name.data.toList) (Cof.ngroups o.mode o.t o.l o.size) x ((Cof.split v o.mode o.t o.l n tape).getD i []) :=
 ⟨by rw [split_len hp _ _ i hi ht,hz],hx⟩
theorem good_unique {key len:Nat} {hd X P Q:List UInt8} (h:Cof.Good key hd len X P) (g:Cof.Good key hd len X Q):P=Q:=by
 obtain ⟨_,_,h3⟩:=good_take rfl h
 obtain ⟨_,_,g3⟩:=good_take rfl g
 rw [h3,g3]
section
variable {w:World} {L:Seat} {s:Sta} {V:ByteArray→Option ByteArray}
theorem Bank.hasAll (h:Bank w L s) (hc:Calm L s) (x:ByteArray) (hx:hasName (s.rss 0) x=true) (i:Nat) (hi:i<L.n):hasName (s.rss i) x=true:=by
 rw [hc.2.hasName h.n1 h.so x i hi];exact hx
theorem Bank.get_val (h:Bank w L s) (hc:Calm L s) (hup:∀i,i<L.n→s.dn i=false) (hV:Vals L.key L.n s.rss s.X V) (nm:ByteArray) :
  Calls Tryz.prog 23 #[.pointer (some ⟨L.C,0,none⟩),.string nm] w fun e w'=>(match V nm with
   | some v=>e=.returned (.tuple #[.string v,.int .i64 0])
   | none=>e=.returned (.tuple #[.string ByteArray.empty,.int .i64 9]))∧Below w.heap.size w w':=by
 cases hy:hasName (s.rss 0) nm with
 | false =>
  rw [hV.no nm hy]
  exact (h.ask hc.1).get_none nm hy
 | true =>
  obtain ⟨v,hv,hz,tape,htp,hxs⟩:=hV.yes nm hy
  rw [hv]
  obtain ⟨_,hall,hon⟩:=h.held hc nm hy (recOf (s.rss 0) nm).ob rfl
  have hg:=(hall 0 h.n1).2.2.1
  obtain ⟨o,ho⟩:∃o,o=(recOf (s.rss 0) nm).ob:=⟨_,rfl⟩
  rw [←ho] at hz htp hxs hon
  have hp:IsPlan o.mode o.t o.l L.n:=by rw [ho];exact hg.plan
  have hn8:=hp.n8
  have hN:=gsize_le hp
  have hNn:Cof.gsize o.mode o.t o.l+Cof.tsize o.mode o.t≤L.n:=by
   have h6:=hp.md
   have h1:=hp.t1
   have h2:=hp.tn
   have h3:=hp.l1
   unfold Cof.gsize Cof.tsize
   rcases h6 with ⟨e,h6⟩|⟨e,h6⟩
   ·rw [e];simp;omega
   ·rw [e];simp;omega
  have hJ:Judged L.key o.mode o.t o.l L.n o.epoch o.size nm (Cof.ngroups o.mode o.t o.l o.size) s.dn (fun _=>false) (fun i=>(recOf (s.rss i) nm).x s.X) (fun i=>(Cof.split v.data.toList o.mode o.t o.l L.n tape).getD i []):=fun i hi _=>⟨fun _=>by
   have hG:=ValAt.good hp hi (by rw [htp];simp) (by rw [hz];simp) (hxs i hi)
   rw [hon] at hG
   exact hG,fun hb=>by cases hb⟩
  have hU:upTo (fun i=>s.dn i || (fun _=>false) i) L.n=List.range L.n:=by
   unfold upTo
   rw [List.filter_eq_self]
   intro i hi
   simp [hup i (List.mem_range.1 hi)]
  refine (h.get_go hc nm hy o ho (fun _=>false) _ hJ).mono ?_
  rintro e w' ⟨he,hb⟩
  refine ⟨?_,hb⟩
  rw [hU,if_pos (by rw [List.length_range];exact hNn)] at he
  have hjs:=Cof.join_split v.data.toList tape o.mode o.t o.l L.n ((List.range L.n).take (Cof.gsize o.mode o.t o.l+Cof.tsize o.mode o.t)) (by have:=hN.1;omega) (Nat.le_trans hp.tn hn8) (by have h1:=hp.t1;rcases hp.md with ⟨_,h⟩|⟨_,h⟩<;>omega) (by rw [htp];simp) (List.nodup_range.sublist (List.take_sublist _ _)) (fun q hq=>Nat.lt_of_lt_of_le (List.mem_range.1 (List.mem_of_mem_take hq)) hn8) (fun q hq=>List.mem_range.1 (List.mem_of_mem_take hq)) (by rw [List.length_take,List.length_range];omega)
  rw [show v.data.toList.length=o.size by rw [hz];simp] at hjs
  rw [he,hjs,show (⟨v.data.toList.toArray⟩:ByteArray)=v by simp]
end
end Go.Proofs.YtcegdgmbponapabGreatDoor
namespace Go.Proofs.YtcegdgmbponapabGreatDoor
open Go.RowKit
attribute [local go_sem ↓] Go.wp_at_zero Go.wp_at_succ
abbrev Mem:=ByteArray × ByteArray
def mems (l:List Mem):List Value:=l.flatMap fun p=>[.string p.1,.string p.2]
theorem mems_length (l:List Mem):(mems l).length=l.length*2:=by
 induction l with
 | nil=>rfl
 | cons p l ih=>simp only [mems,List.flatMap_cons,List.length_append] at ih ⊢;rw [ih];simp;omega
theorem mems_append (a b:List Mem):mems (a++b)=mems a++mems b:=by simp [mems]
theorem mems_at (l:List Mem) (k j:Nat) (hk:k<l.length) (hj:j<2):(mems l)[k*2+j]?=[Value.string (l[k]!).1,.string (l[k]!).2][j]?:=by
 induction l generalizing k with
 | nil=>simp at hk
 | cons p l ih =>
  cases k with
  | zero =>
   simp only [mems,List.flatMap_cons,Nat.zero_mul,Nat.zero_add]
   rw [List.getElem?_append_left (by simpa using hj)]
   rfl
  | succ k =>
   have:=ih k (by simpa using hk)
   simp only [mems,List.flatMap_cons] at this ⊢
   rw [List.getElem?_append_right (by simp;omega),show (k+1)*2+j-[Value.string p.1,Value.string p.2].length=k*2+j by simp;omega,this]
   rfl
theorem mems_one (l:List Mem) (u:Value) (h:u∈mems l):u.oneCell'=true:=by
 unfold mems at h
 rw [List.mem_flatMap] at h
 obtain ⟨p,_,hp⟩:=h
 simp at hp
 rcases hp with rfl | rfl<;>rfl
theorem Tryz.infoMemo:(Tryz.prog.info? 70).map (fun i=>(i.zero,i.size,i.bytes))=some (some (.agg #[.string ByteArray.empty,.string ByteArray.empty]),2,32):=by kernel_rfl
def Memo (w:World) (base:Nat) (v:Value) (l:List Mem):Prop:=w.ownsRow base 70 2 v l.length (mems l)
theorem Memo.mono {w:World} {base base':Nat} {v:Value} {l:List Mem} (h:Memo w base v l) (hb:base'≤base):Memo w base' v l:=World.ownsRow.mono h hb
theorem Memo.spared {own:Nat→Prop} {w w':World} {base:Nat} {v:Value} {l:List Mem} (h:Memo w base v l) (hs:Spared own w w') (ho:∀b,v.ownBlock=some b→¬own b):Memo w' base v l:=owns_spared h hs ho
theorem Memo.below {w w':World} {base:Nat} {v:Value} {l:List Mem} (h:Memo w base v l) (hb:Below w.heap.size w w'):Memo w' base v l:=h.spared (Spared.ofBelow (own:=fun _=>False) hb (Nat.le_refl _)) (fun _ _ h=>h)
def withoutL (l:List Mem) (nm:ByteArray):List Mem:=l.filter fun p=>!decide (p.1=nm)
theorem mem_cells {w:World} {a:Option Addr} {l:List Mem} (h:Rd w a (mems l)) (k:Nat) (hk:k<l.length):∃b o,a=some ⟨b,o,none⟩∧b<w.heap.size∧w.cell? ⟨b,o+k*2,none⟩=some (.string (l[k]!).1)∧w.cell? ⟨b,o+k*2+1,none⟩=some (.string (l[k]!).2):=by
 obtain ⟨b,o,rfl,hb,_⟩:=h.pos (by rw [mems_length];omega)
 have cell:∀j (hj:j<2),w.cell? ⟨b,o+(k*2+j),none⟩=[Value.string (l[k]!).1,.string (l[k]!).2][j]?:=fun j hj=>by
  have e:=mems_at l k j hk hj
  obtain ⟨v,hv⟩:∃v,[Value.string (l[k]!).1,.string (l[k]!).2][j]?=some v:=⟨_,List.getElem?_eq_getElem (by simpa using hj)⟩
  obtain ⟨b',o',e1,_,e2⟩:=h (k*2+j) v (e.trans hv)
  cases e1
  rw [e2,hv]
 exact ⟨b,o,rfl,hb,cell 0 (by decide),by rw [Nat.add_assoc];exact cell 1 (by decide)⟩
set_option maxRecDepth 100000 in
set_option maxHeartbeats 1000000 in
theorem without_any (a:Option Addr) (m c:Nat) (l:List Mem) (nm:ByteArray) (w:World) (hm:m=l.length) (hr:Rd w a (mems l)) (hl:m≤100) :
  Calls Tryz.prog 32 #[.slice a m c,.string nm] w fun e w'=>∃v,e=.returned v∧Memo w' w.heap.size v (withoutL l nm)∧Below w.heap.size w w':=by
 obtain ⟨i0,hi,hz0,hz1,hz2⟩:=info_parts Tryz.infoMemo
 have HM:=hid hm
 have HR:=hid hr
 clear hm hr
 go_enter Tryz.func32,Tryz.ntmps32
 go_wp2_with fail
 go_loopw [5,6] (fun u i wr=>∃k:Nat,k≤m∧i=.int .i64 k∧Memo wr w.heap.size u (withoutL (l.take k) nm)∧Below w.heap.size w wr) (fun _ i _=>m-(intOf i).toNat)
 case atStart=>exact ⟨0,Nat.zero_le _,rfl,World.ownsRow_nil _ _ _ _,Below.refl _ _⟩
 case round =>
  obtain ⟨k,hk,rfl,hown,hbel⟩:=hrel
  have HO:=hid hown
  clear hown
  by_cases hlt:k<m
  ·have hlt':(k:Int)<(m:Int):=by omega
   have hkl:k<l.length:=by rw [←HM.out];exact hlt
   obtain ⟨b,o,rfl,hb,c0,c1⟩:=mem_cells (HR.out.below hbel (Nat.le_refl _)) k hkl
   obtain ⟨a1,ha1⟩:∃a1,a1=(l[k]!).1:=⟨_,rfl⟩
   obtain ⟨a2,ha2⟩:∃a2,a2=(l[k]!).2:=⟨_,rfl⟩
   have hsn:withoutL (l.take (k+1)) nm=withoutL (l.take k) nm++if a1=nm then [] else [(a1,a2)]:=by
    unfold withoutL
    rw [List.take_succ_eq_append_getElem hkl,List.filter_append,ha1,ha2,getElem!_pos l k hkl]
    congr 1
    by_cases e:(l[k]).1=nm<;>simp [e]
   rw [←ha1] at c0
   rw [←ha2] at c1
   have HSN:=hid hsn
   have HLK:=hid (show (withoutL (l.take k) nm).length≤k from Nat.le_trans (List.length_filter_le _ _) (by rw [List.length_take];omega))
   clear ha1 ha2 hsn
   by_cases e:a1=nm
   ·have he:(a1.toList == nm.toList)=true:=by rw [bytes_beq];simpa using e
    have HE:=hid e
    clear e
    go_wp2_with fail
    go_roundw
    case rel=>exact ⟨k+1,hlt,by go_num,by rw [HSN.out,if_pos HE.out,List.append_nil];exact HO.out,hbel⟩
    case measure=>simp [intOf];omega
   ·have he:(a1.toList == nm.toList)=false:=by rw [bytes_beq];simpa using e
    have HE:=hid e
    clear e
    obtain ⟨q,hq⟩:∃q,q=(withoutL (l.take k) nm).length:=⟨_,rfl⟩
    have hqk:q≤100:=by rw [hq];have:=HLK.out;omega
    have HQ:=hid hq
    have HOW:=hid (show wr.ownsRow w.heap.size 70 2 u5 q (mems (withoutL (l.take k) nm)) from by rw [hq];exact HO.out)
    clear hq
    have hba:=(Below.refl wr.heap.size wr).alloc (Nat.le_refl _) (.cells #[.string a1,.string a2] 70)
    have HOW1:=hid (owns_below_size HOW.out hba (Nat.le_refl _))
    have hzb:=hbel.size
    go_wp2_with (first | (at_builtin;refine wpList_append_own _ rfl (.tmp 20) (.tmp 25) 27 rfl w.heap.size 70 i0 _ 2 32 Tryz.underlying27 hi hz0 hz1 hz2 rfl (by decide) _ q (mems (withoutL (l.take k) nm)) rfl HOW1.out ⟨wr.heap.size,0,none⟩ 1 1 [.string a1,.string a2] rfl rfl (fun q u hq=>by rw [add_at,World.cell?_alloc_at _ _ _ _ (by simp),Nat.zero_add];simpa using hq) (fun u hu=>by simp at hu;rcases hu with rfl | rfl<;>rfl) (by unfold maxLen;omega) (by omega) (by simp;omega) ?_;intro v2 w2 hown2 hgrow2 _;(have HO2:=hid hown2);(have HB2:=hid ((hbel.trans (hba.mono hbel.size)).grown hgrow2 (by simp;omega) (fun q hq=>(HOW1.out.lt q hq).1)));clear hown2 hgrow2)|fail)
    go_roundw
    case rel =>
     refine ⟨k+1,hlt,by go_num,?_,HB2.out⟩
     rw [HSN.out,if_neg HE.out]
     show w2.ownsRow _ _ _ _ _ _
     rw [List.length_append,mems_append,←HQ.out]
     exact HO2.out
    case measure=>simp [intOf];omega
  ·have hkk:k=m:=by omega
   subst hkk
   go_wp2_with fail
   go_ret
   refine ⟨_,rfl,?_,hbel⟩
   have h2:=HO.out
   rw [List.take_of_length_le (Nat.le_of_eq HM.out.symm)] at h2
   exact h2
def behindL (l:List Mem) (st:StepV):List Mem :=
 if pickN st.kind 7=0 then l++[(nameB st.a,st.v.extract 0 60)] else if pickN st.kind 7=1 then withoutL l (nameB st.a) else l
theorem append_two {P:Program} (w:World) {ops:Array Oper} {rest:List Oper} {o:Oper} {a:Act} {Q:Exit→Act→World→Prop} (hgd:o.guard=none) (s x:Operand) (t:TypeId)
  (ho:o.op=.call { callee:=.builtin .append,args:=#[s,x],argTypes:=#[t,t] })
  (base:Nat) (e:TypeId) (i:TypeInfo) (z:Value) (bytes:Nat) (ht:P.underlying t=some (.slice e)) (hi:P.info? e=some i) (hz:i.zero=some z) (hsize:i.size=2) (hby:i.bytes=bytes) (hzs:z.cells.size=2)
  (v:Value) (n:Nat) (xs:List Value) (hs:a.eval s=v) (hown:w.ownsRow base e 2 v n xs) (ao:Option Addr) (m c:Nat) (news:List Value) (hx:a.eval x=.slice ao m c) (hl:news.length=m*2) (hr:Rd w ao news)
  (hnil:ao=none→c=0) (h1:∀u∈news,u.oneCell'=true) (hm:n+m≤1000000) (hb:bytes≤1000) (hbase:base≤w.heap.size)
  (h:∀v' w',w'.ownsRow base e 2 v' (n+m) (xs++news)→w.grownBy w' v.ownBlock→wpList P ops Q rest (a.put o.dst v') w'):wpList P ops Q (o :: rest) a w:=by
 have hbb:(n+m)*bytes≤140737488355328:=by
  have:=Nat.mul_le_mul hm hb
  omega
 cases ao with
 | none =>
  have hm0:news=[]:=by
   cases news with
   | nil=>rfl
   | cons v0 r=>obtain ⟨b,o',h1,_⟩:=hr 0 v0 rfl;cases h1
  subst hm0
  have hm0:m=0:=by simp at hl;omega
  subst hm0
  rw [hnil rfl] at hx
  refine wpList_append_own_none hgd s x t ho base e i 2 ht hi v n xs hs hown hx ?_
  exact h v w (by simpa using hown) (World.grownBy.refl _ _)
 | some ad =>
  refine wpList_append_own w hgd s x t ho base e i z 2 bytes ht hi hz hsize hby hzs (by decide) v n xs hs hown ad m c news hx (by omega) ?_ h1 (by unfold maxLen;omega) hbb hbase ?_
  ·intro j u hj
   obtain ⟨b,o',e1,e2,e3⟩:=hr j u hj
   cases e1
   rw [add_at];exact e3
  ·intro v' w' h1 h2 _
   exact h v' w' h1 h2
theorem Memo.parts {w:World} {base:Nat} {v:Value} {l:List Mem} (h:Memo w base v l):∃a c,v=.slice a l.length c∧Rd w a (mems l)∧(a=none→c=0):=by
 obtain ⟨a,c,rfl,hrd⟩:=owns_rd_size h
 refine ⟨a,c,rfl,hrd,fun e=>?_⟩
 rcases h.2 with ⟨h8,_⟩|⟨g',cap,cur,h8,_⟩
 ·injection h8
 ·injection h8 with h9
  rw [e] at h9
  cases h9
def beS (i:Nat):Nat:=if i=10 then 4 else i+14
def beV (W W2 q T:Nat) (ov:Value) (l:List Mem) (a:Int) (nm v0 vs:ByteArray):Nat→Value→World→Prop
 | 0,v,_=>v=ov
 | 1,v,_=>v=.pointer (some ⟨T,1,none⟩)
 | 2,v,_=>v=.int .i64 a
 | 3,v,_=>v=.string nm
 | 4,v,_=>v=.pointer (some ⟨T,5,none⟩)
 | 5,v,_=>v=.string v0
 | 6,v,_=>v=.string vs
 | 7,v,_=>v=.agg #[.string nm,.string vs]
 | 8,v,w=>∃b,v=.slice (some ⟨b,0,none⟩) 1 1∧W2≤b∧w.heap[b]?=some (.cells #[.string nm,.string vs] 70)
 | 9,v,w=>w.ownsRow W 70 2 v (q+1) (mems l++[.string nm,.string vs])
 | 10,v,w=>w.ownsRow W 70 2 v (q+1) (mems l++[.string nm,.string vs])
 | _,_,_=>True
theorem beV_keeps (W W2 q T:Nat) (ov:Value) (l:List Mem) (a:Int) (nm v0 vs:ByteArray) (h8:∀b,ov.ownBlock=some b→b<W2) (i j:Nat) (v:Value) (w w':World) (hij:¬(i=9∧(j=9∨j=10))) (h:beV W W2 q T ov l a nm v0 vs j v w) (hs:Spared (fun b=>i=9∧ov.ownBlock=some b) w w'):beV W W2 q T ov l a nm v0 vs j v w':=by
 unfold beV at h ⊢
 split at h
 ·exact h
 ·exact h
 ·exact h
 ·exact h
 ·exact h
 ·exact h
 ·exact h
 ·exact h
 ·obtain ⟨b,h1,h2,h3⟩:=h
  exact ⟨b,h1,h2,hs.heap h3 (fun ⟨_,e⟩=>by have:=h8 b e;omega)⟩
 ·exact owns_spared h hs (fun b _ ⟨e,_⟩=>hij ⟨e,.inl rfl⟩)
 ·exact owns_spared h hs (fun b _ ⟨e,_⟩=>hij ⟨e,.inr rfl⟩)
 ·trivial
theorem arrF32 (t:Array Value) (h:t.size=32):∃f:Nat→Value,(∀k,t.getD k undef=f k)∧t=#[f 0,f 1,f 2,f 3,f 4,f 5,f 6,f 7,f 8,f 9,f 10,f 11,f 12,f 13,f 14,f 15,f 16,f 17,f 18,f 19,f 20,f 21,f 22,f 23,f 24,f 25,f 26,f 27,f 28,f 29,f 30,f 31]:=⟨fun k=>t.getD k undef,fun _=>rfl,arr_of t 32 h⟩
set_option maxRecDepth 100000 in
set_option maxHeartbeats 2000000 in
theorem behind_put (base:Nat) (lv:Value) (l:List Mem) (st:StepV) (w:World) (h:Memo w base lv l) (hl:l.length≤20) (hst:st.Ok) (hk:pickN st.kind 7=0) :
  Calls Tryz.prog 8 #[lv,st.val] w fun e w'=>∃v,e=.returned v∧Memo w' w.heap.size v (l++[(nameB st.a,st.v.extract 0 60)])∧Below w.heap.size w w':=by
 obtain ⟨i0,hi,hz0,hz1,hz2⟩:=info_parts Tryz.infoMemo
 have HPI:=hid (fun w'=>pick_any st.kind 7 w' hst.kind.1 hst.kind.2 (by decide) (by decide))
 rw [hk] at HPI
 have HSH:=hid (fun w'=>short_any st.v 60 w' (by decide))
 have HNA:=hid (fun w'=>name_any st.a w' hst.a)
 obtain ⟨la,lc,rfl,hrd,hnil⟩:=h.parts
 have HL:=hid hrd
 have HNL:=hid hnil
 obtain ⟨q,hq⟩:∃q,q=l.length:=⟨_,rfl⟩
 rw [←hq] at hl ⊢
 have HQ:=hid hq
 obtain ⟨kd,a,b,c,d,v,tp,m,t,ll⟩:=st
 simp only [StepV.val] at *
 generalize v.extract 0 60=vs at *
 generalize nameB a=nm at *
 have hba:=(Below.refl w.heap.size w).alloc (Nat.le_refl _) (.cells #[.int .i64 kd,.int .i64 a,.int .i64 b,.int .i64 c,.int .i64 d,.string v,.string tp,.int .i64 m,.int .i64 t,.int .i64 ll] 31)
 have HT:=hid (alloc_at w (.cells #[.int .i64 kd,.int .i64 a,.int .i64 b,.int .i64 c,.int .i64 d,.string v,.string tp,.int .i64 m,.int .i64 t,.int .i64 ll] 31))
 have HL1:=hid (hrd.below hba (Nat.le_refl _))
 clear h hst hk hrd hnil hq HL
 go_enter Tryz.func8,Tryz.ntmps8
 go_wp2_with (first | (go_at_call 5;refine (HPI.out _).mono ?_;rintro e w9 ⟨rfl,rfl⟩)|(at_builtin;refine append_two _ rfl (.tmp 11) (.tmp 12) 27 rfl (w.heap.size+1) 70 i0 _ 32 Tryz.underlying27 hi hz0 hz1 hz2 rfl (.slice none 0 0) 0 [] rfl (World.ownsRow_nil _ _ _ _) la q lc (mems l) rfl (by rw [mems_length,HQ.out]) HL1.out HNL.out (mems_one l) (by omega) (by decide) (by simp) ?_;intro ov w3 hown3 hgrow3;(have hb3:=grown_below hgrow3);(have HO3:=hid hown3);clear hown3 hgrow3)|fail)
 rw [List.nil_append,Nat.zero_add] at HO3
 have hW3:w.heap.size+1≤w3.heap.size:=by have:=hb3.size;simpa using this
 have HT3:=hid ((hb3.block _ (by simp)).trans HT.out)
 have HB03:=hid (hba.trans (hb3.mono hba.size))
 have HLT:=hid (show ∀b,ov.ownBlock=some b→b<w3.heap.size from fun b hb=>(HO3.out.lt b hb).2)
 have HNE:=hid (show ∀b,ov.ownBlock=some b→b≠w.heap.size from fun b hb e=>by have:=(HO3.out.lt b hb).1;omega)
 clear hb3 HT
 have HC:∀w':World,Spared (fun b=>∃i,i=9∧ov.ownBlock=some b) { w3 with drawn:=w3.drawn+1 } w'→w'.cell? ⟨w.heap.size,1,none⟩=some (.int .i64 a)∧w'.cell? ⟨w.heap.size,5,none⟩=some (.string v):=by
  intro w' hs
  have hh:w'.heap[w.heap.size]?=_:=hs.heap HT3.out (by rintro ⟨i,_,e⟩;exact HNE.out _ e rfl)
  exact ⟨by rw [cells_at hh];rfl,by rw [cells_at hh];rfl⟩
 have MK:∀(i:Nat) (ac:Act) (w':World) (o:Oper),ac.tmps.size=32→i<11→StepOk Tryz.prog o ac w' (fun u w''=>Spared (fun b=>i=9∧ov.ownBlock=some b) w' w''∧beV w.heap.size w3.heap.size q w.heap.size ov l a nm v vs i u w'')→StepOk Tryz.prog o ac w' (fun u w''=>Spared (fun b=>i=9∧ov.ownBlock=some b) w' w''∧beV w.heap.size w3.heap.size q w.heap.size ov l a nm v vs i ((ac.put (some (beS i)) u).tmps.getD (beS i) undef) w''):=by
  intro i ac w' o hsz hi11 h
  refine h.weaken fun u w'' hp=>⟨hp.1,?_⟩
  rw [put_eq _ _ _ (by unfold beS;split<;>omega)]
  exact hp.2
 refine wp_region_own (by kernel_rfl) beS (fun j ac w'=>beV w.heap.size w3.heap.size q w.heap.size ov l a nm v vs j (ac.tmps.getD (beS j) undef) w') (fun j w'=>j=9→w'.ownsRow w.heap.size 70 2 ov q (mems l)) (fun i b=>i=9∧ov.ownBlock=some b) [(3,.pointer (some ⟨w.heap.size,0,none⟩)),(5,ov)] 32 (fun i=>if i=0 then [5] else if i=1∨i=4 then [3] else []) (by kernel_rfl) rfl rfl (by simp) ?_ ?_ ?_ ?_ ?_
 ·exact fun _ _ _=>World.ownsRow.mono HO3.out (by omega)
 ·intro i j ac u w4 w5 hj hij hwt _ hr hs hsl
  rw [put_ne _ _ _ _ hsl]
  refine beV_keeps _ _ _ _ _ _ _ _ _ _ HLT.out i j _ w4 w5 ?_ hr hs
  rintro ⟨rfl,rfl | rfl⟩
  ·exact hij rfl
  ·exact absurd (Eq.trans (show true=_ by kernel_rfl) hwt) (by decide)
 ·intro i j w4 w5 hij _ hu hs hj3
  exact owns_spared (hu hj3) hs (fun b hb ⟨e,_⟩=>hij (e.trans hj3.symm))
 ·refine ⟨?_,?_,?_,?_,?_,?_,?_,?_,?_,?_,?_,trivial⟩
  ·intro ac w' hsz hs hf hd2 hu
   have hd:=fun e he hb=>(hd2 e he hb).1
   refine MK 0 ac w' _ hsz (by decide) ?_
   clear hsz
   have f5:ac.tmps[5]?.getD undef=ov:=by simpa using hf (5,ov) (by simp) rfl
   simp [beV,beS,Region.binds] at hd
   exact .inl ⟨ov,w',by go_simp,Spared.refl _ _,rfl⟩
  ·intro ac w' hsz hs hf hd2 hu
   have hd:=fun e he hb=>(hd2 e he hb).1
   refine MK 1 ac w' _ hsz (by decide) ?_
   clear hsz
   have f3:ac.tmps[3]?.getD undef=.pointer (some ⟨w.heap.size,0,none⟩):=by simpa using hf (3,.pointer (some ⟨w.heap.size,0,none⟩)) (by simp) rfl
   simp [beV,beS,Region.binds] at hd
   exact .inl ⟨.pointer (some ⟨w.heap.size,1,none⟩),w',by go_simp,Spared.refl _ _,rfl⟩
  ·intro ac w' hsz hs hf hd2 hu
   have hd:=fun e he hb=>(hd2 e he hb).1
   refine MK 2 ac w' _ hsz (by decide) ?_
   clear hsz
   obtain ⟨k1,k5⟩:=HC w' hs
   simp [beV,beS,Region.binds] at hd
   exact .inl ⟨.int .i64 a,w',by go_simp,Spared.refl _ _,rfl⟩
  ·intro ac w' hsz hs hf hd2 hu
   have hd:=fun e he hb=>(hd2 e he hb).1
   refine MK 3 ac w' _ hsz (by decide) ?_
   clear hsz
   simp [beV,beS,Region.binds] at hd
   refine .inr ⟨28,#[.int .i64 a],by go_simp,(HNA.out w').mono ?_⟩
   rintro e w'' ⟨rfl,hb3⟩
   exact ⟨_,rfl,Spared.ofBelow hb3 (Nat.le_refl _),rfl⟩
  ·intro ac w' hsz hs hf hd2 hu
   have hd:=fun e he hb=>(hd2 e he hb).1
   refine MK 4 ac w' _ hsz (by decide) ?_
   clear hsz
   have f3:ac.tmps[3]?.getD undef=.pointer (some ⟨w.heap.size,0,none⟩):=by simpa using hf (3,.pointer (some ⟨w.heap.size,0,none⟩)) (by simp) rfl
   simp [beV,beS,Region.binds] at hd
   exact .inl ⟨.pointer (some ⟨w.heap.size,5,none⟩),w',by go_simp,Spared.refl _ _,rfl⟩
  ·intro ac w' hsz hs hf hd2 hu
   have hd:=fun e he hb=>(hd2 e he hb).1
   refine MK 5 ac w' _ hsz (by decide) ?_
   clear hsz
   obtain ⟨k1,k5⟩:=HC w' hs
   simp [beV,beS,Region.binds] at hd
   exact .inl ⟨.string v,w',by go_simp,Spared.refl _ _,rfl⟩
  ·intro ac w' hsz hs hf hd2 hu
   have hd:=fun e he hb=>(hd2 e he hb).1
   refine MK 6 ac w' _ hsz (by decide) ?_
   clear hsz
   simp [beV,beS,Region.binds] at hd
   refine .inr ⟨27,#[.string v,.int .i64 60],by go_simp,(HSH.out w').mono ?_⟩
   rintro e w'' ⟨rfl,rfl⟩
   exact ⟨_,rfl,Spared.refl _ _,rfl⟩
  ·intro ac w' hsz hs hf hd2 hu
   have hd:=fun e he hb=>(hd2 e he hb).1
   refine MK 7 ac w' _ hsz (by decide) ?_
   clear hsz
   simp [beV,beS,Region.binds] at hd
   exact .inl ⟨.agg #[.string nm,.string vs],w',by go_simp,Spared.refl _ _,rfl⟩
  ·intro ac w' hsz hs hf hd2 hu
   have hd:=fun e he hb=>(hd2 e he hb).1
   refine MK 8 ac w' _ hsz (by decide) ?_
   clear hsz
   simp [beV,beS,Region.binds] at hd
   refine .inl ⟨.slice (some ⟨w'.heap.size,0,none⟩) 1 1,w'.alloc (.cells #[.string nm,.string vs] 70),by go_simp,Spared.ofBelow ((Below.refl _ _).alloc (Nat.le_refl _) _) (Nat.le_refl _),w'.heap.size,rfl,hs.size,alloc_at _ _⟩
  ·intro ac w' hsz hs hf hd2 hu
   refine MK 9 ac w' _ hsz (by decide) ?_
   clear hsz
   have h0:ac.tmps.getD 14 undef=ov:=(hd2 ⟨0,.data⟩ (by simp) rfl).1
   obtain ⟨b3,h3,hb3,hc3⟩:=(hd2 ⟨8,.data⟩ (by simp) rfl).1
   have h3':ac.tmps.getD 22 undef=.slice (some ⟨b3,0,none⟩) 1 1:=h3
   refine append_step (.tmp 14) (.tmp 22) 27 rfl w.heap.size 70 i0 _ 2 32 Tryz.underlying27 hi hz0 hz1 hz2 rfl (by decide) ov q (mems l) (by simpa [Act.eval] using h0) (hu rfl) ⟨b3,0,none⟩ 1 1 [.string nm,.string vs] (by simpa [Act.eval] using h3') rfl (fun j u hj=>by rw [add_at,Nat.zero_add,cells_at hc3];simpa using hj) (fun u hu=>by simp at hu;rcases hu with rfl | rfl<;>rfl) (by unfold maxLen;omega) (by omega) (by have h9:=hs.size;simp at h9 ⊢;omega) (by decide) ?_
   intro v' w'' h1 h2 _
   exact ⟨(grown_spared h2).mono fun b hb=>⟨rfl,hb⟩,h1⟩
  ·intro ac w' hsz hs hf hd2 hu
   have h3:=(hd2 ⟨9,.data⟩ (by simp) rfl).1
   refine MK 10 ac w' _ hsz (by decide) ?_
   exact .inl ⟨ac.tmps[23]?.getD undef,w',by go_simp,Spared.refl _ _,(show w'.ownsRow w.heap.size 70 2 (ac.tmps[23]?.getD undef) (q+1) (mems l++[.string nm,.string vs]) from by have h4:w'.ownsRow w.heap.size 70 2 (ac.tmps.getD 23 undef) (q+1) (mems l++[.string nm,.string vs]):=h3;simpa using h4)⟩
 ·intro a2 w5 hdf hsz hs5 hf hr
  obtain ⟨tm2,df2⟩:=a2
  simp only at hdf hsz hf hr
  subst hdf
  obtain ⟨f,hfk,rfl⟩:=arrF32 tm2 hsz
  have r10:w5.ownsRow w.heap.size 70 2 (f 4) (q+1) (mems l++[.string nm,.string vs]):=by rw [←hfk 4];exact hr 10 (by decide)
  have HR:=hid r10
  have hspR:Spared (fun b=>ov.ownBlock=some b) w3 w5:=((Spared.refl (fun b=>ov.ownBlock=some b) w3).drew).trans (hs5.mono fun b ⟨i,_,hb⟩=>hb)
  have hb05:Below w.heap.size w w5:=HB03.out.trans (hspR.below w.heap.size HB03.out.size (fun b hb=>by have:=(HO3.out.lt b hb).1;omega))
  clear hr hsz hf hfk r10 hspR hs5 HC MK
  go_wp2_with fail
  go_ret
  refine ⟨_,rfl,?_,hb05⟩
  show w5.ownsRow _ _ _ _ _ _
  rw [List.length_append,mems_append,←HQ.out]
  exact HR.out
set_option maxRecDepth 100000 in
set_option maxHeartbeats 1000000 in
theorem behind_del (base:Nat) (lv:Value) (l:List Mem) (st:StepV) (w:World) (h:Memo w base lv l) (hl:l.length≤20) (hst:st.Ok) (hk:pickN st.kind 7=1) :
  Calls Tryz.prog 8 #[lv,st.val] w fun e w'=>∃v,e=.returned v∧Memo w' w.heap.size v (withoutL l (nameB st.a))∧Below w.heap.size w w':=by
 have HPI:=hid (fun w'=>pick_any st.kind 7 w' hst.kind.1 hst.kind.2 (by decide) (by decide))
 rw [hk] at HPI
 have HNA:=hid (fun w'=>name_any st.a w' hst.a)
 obtain ⟨la,lc,rfl,hrd,hnil⟩:=h.parts
 obtain ⟨q,hq⟩:∃q,q=l.length:=⟨_,rfl⟩
 rw [←hq] at hl ⊢
 have HQ:=hid hq
 have HR:=hid hrd
 obtain ⟨kd,a,b,c,d,v,tp,m,t,ll⟩:=st
 simp only [StepV.val] at *
 generalize nameB a=nm at *
 have hba:=(Below.refl w.heap.size w).alloc (Nat.le_refl _) (.cells #[.int .i64 kd,.int .i64 a,.int .i64 b,.int .i64 c,.int .i64 d,.string v,.string tp,.int .i64 m,.int .i64 t,.int .i64 ll] 31)
 clear h hst hk hrd hnil hq
 go_enter Tryz.func8,Tryz.ntmps8
 go_wp2_with (first | (go_at_call 5;refine (HPI.out _).mono ?_;rintro e w9 ⟨rfl,rfl⟩)|(go_at_call 28;refine (HNA.out _).mono ?_;rintro e w3 ⟨rfl,hb3⟩;(have HB3:=hid (hba.trans (hb3.mono hba.size))))|(go_at_call 32;refine (without_any la q lc l nm _ HQ.out (HR.out.below HB3.out (Nat.le_refl _)) (by omega)).mono ?_;rintro e w4 ⟨v4,rfl,hm4,hb4⟩;(have HM4:=hid hm4);clear hm4))
 go_ret
 exact ⟨_,rfl,HM4.out.mono HB3.out.size,HB3.out.trans (hb4.mono HB3.out.size)⟩
set_option maxRecDepth 100000 in
set_option maxHeartbeats 1000000 in
theorem behind_idle (base:Nat) (lv:Value) (l:List Mem) (st:StepV) (w:World) (h:Memo w base lv l) (hst:st.Ok) (hk0:pickN st.kind 7≠0) (hk1:pickN st.kind 7≠1) :
  Calls Tryz.prog 8 #[lv,st.val] w fun e w'=>e=.returned lv∧Below w.heap.size w w':=by
 have HPI:=hid (fun w'=>pick_any st.kind 7 w' hst.kind.1 hst.kind.2 (by decide) (by decide))
 obtain ⟨la,lc,rfl,hrd,hnil⟩:=h.parts
 obtain ⟨q,hq⟩:∃q,q=l.length:=⟨_,rfl⟩
 rw [←hq] at ⊢
 obtain ⟨kd,a,b,c,d,v,tp,m,t,ll⟩:=st
 simp only [StepV.val] at *
 generalize pickN kd 7=pk at *
 have hk0':¬(pk:Int)=0:=by omega
 have hk1':¬(pk:Int)=1:=by omega
 have hba:=(Below.refl w.heap.size w).alloc (Nat.le_refl _) (.cells #[.int .i64 kd,.int .i64 a,.int .i64 b,.int .i64 c,.int .i64 d,.string v,.string tp,.int .i64 m,.int .i64 t,.int .i64 ll] 31)
 clear h hst hrd hnil hq hk0 hk1
 go_enter Tryz.func8,Tryz.ntmps8
 go_wp2_with (first | (go_at_call 5;refine (HPI.out _).mono ?_;rintro e w9 ⟨rfl,rfl⟩))
 go_ret
 exact ⟨rfl,hba⟩
theorem behind_any (base:Nat) (lv:Value) (l:List Mem) (st:StepV) (w:World) (h:Memo w base lv l) (hl:l.length≤20) (hst:st.Ok) :
  Calls Tryz.prog 8 #[lv,st.val] w fun e w'=>∃v,e=.returned v∧Memo w' 0 v (behindL l st)∧Below w.heap.size w w':=by
 unfold behindL
 by_cases h0:pickN st.kind 7=0
 ·rw [if_pos h0]
  exact (behind_put base lv l st w h hl hst h0).mono fun _ _ ⟨v,h1,h2,h3⟩=>⟨v,h1,h2.mono (Nat.zero_le _),h3⟩
 ·rw [if_neg h0]
  by_cases h1:pickN st.kind 7=1
  ·rw [if_pos h1]
   exact (behind_del base lv l st w h hl hst h1).mono fun _ _ ⟨v,h1,h2,h3⟩=>⟨v,h1,h2.mono (Nat.zero_le _),h3⟩
  ·rw [if_neg h1]
   exact (behind_idle base lv l st w h hst h0 h1).mono fun _ _ ⟨h1,h2⟩=>⟨lv,h1,(h.below h2).mono (Nat.zero_le _),h2⟩
def Fit (V:ByteArray→Option ByteArray) (l:List Mem) (nm:ByteArray):Prop:=(∀p∈l,p.1=nm→V nm=some p.2)∧((∃p∈l,p.1=nm)∨V nm=none)
def FitAll (V:ByteArray→Option ByteArray) (cnt:Nat) (l:List Mem):Prop:=(∀i,i<4→Fit V l (nameN i))∧cnt=l.length
theorem mem_take {l:List Mem} {k:Nat} (hk:k<l.length) (P:Mem→Prop):(∀p∈l.take (k+1),P p)↔(∀p∈l.take k,P p)∧P (l[k]!):=by
 rw [List.take_succ_eq_append_getElem hk,getElem!_pos l k hk]
 constructor
 ·exact fun h=>⟨fun p hp=>h p (List.mem_append_left _ hp),h _ (List.mem_append_right _ (List.mem_singleton.2 rfl))⟩
 ·rintro ⟨h1,h2⟩ p hp
  rcases List.mem_append.1 hp with hp | hp
  ·exact h1 p hp
  ·rw [List.mem_singleton.1 hp];exact h2
theorem ex_take {l:List Mem} {k:Nat} (hk:k<l.length) (nm:ByteArray):(∃p∈l.take (k+1),p.1=nm)↔(∃p∈l.take k,p.1=nm)∨(l[k]!).1=nm:=by
 rw [List.take_succ_eq_append_getElem hk,getElem!_pos l k hk]
 constructor
 ·rintro ⟨p,hp,e⟩
  rcases List.mem_append.1 hp with hp | hp
  ·exact .inl ⟨p,hp,e⟩
  ·rw [List.mem_singleton.1 hp] at e;exact .inr e
 ·rintro (⟨p,hp,e⟩|e)
  ·exact ⟨p,List.mem_append_left _ hp,e⟩
  ·exact ⟨_,List.mem_append_right _ (List.mem_singleton.2 rfl),e⟩
theorem nameN_pick (i:Nat) (h:i<4):nameB (i:Int)=nameN i:=by
 unfold nameB
 congr 1
 rcases show i=0∨i=1∨i=2∨i=3 by omega with rfl | rfl | rfl | rfl<;>rfl
set_option maxRecDepth 100000 in
set_option maxHeartbeats 2000000 in
theorem has_any {w:World} {L:Seat} {s:Sta} {V:ByteArray→Option ByteArray} (hb:Bank w L s) (hc:Calm L s) (hup:∀i,i<L.n→s.dn i=false) (hV:Vals L.key L.n s.rss s.X V) (base:Nat) (lv:Value) (l:List Mem) (hm:Memo w base lv l) (hl:l.length≤20) :
  Calls Tryz.prog 11 #[.pointer (some ⟨L.C,0,none⟩),lv] w fun e w'=>∃b:Bool,e=.returned (.bool b)∧(b=true↔FitAll V (s.rss 0).length l)∧Below w.heap.size w w':=by
 obtain ⟨la,lc,rfl,hrd,_⟩:=hm.parts
 obtain ⟨m,hq⟩:∃m,m=l.length:=⟨_,rfl⟩
 rw [←hq] at hl ⊢
 have HQ:=hid hq
 have HR:=hid hrd
 have HGET:=hid (show ∀w' nm,Below w.heap.size w w'→Calls Tryz.prog 23 #[.pointer (some ⟨L.C,0,none⟩),.string nm] w' fun e w''=>∃(gv:ByteArray) (ge:Int),e=.returned (.tuple #[.string gv,.int .i64 ge])∧((ge=0∧V nm=some gv)∨(ge=9∧V nm=none))∧Below w'.heap.size w' w'' from fun w' nm hbw=>by
  refine ((hb.below hbw).get_val hc hup hV nm).mono ?_
  rintro e w'' ⟨he,hbb⟩
  cases hv:V nm with
  | some v =>
   rw [hv] at he
   exact ⟨_,_,he,.inl ⟨rfl,rfl⟩,hbb⟩
  | none =>
   rw [hv] at he
   exact ⟨_,_,he,.inr ⟨rfl,rfl⟩,hbb⟩)
 have HOBJ:=hid (show ∀w',Below w.heap.size w w'→Calls Tryz.prog 37 #[.pointer (some ⟨L.C,0,none⟩)] w' fun e w''=>∃oa oc,e=.returned (.slice oa (s.rss 0).length oc)∧Below w'.heap.size w' w'' from fun w' hbw=>by
  refine ((hb.below hbw).objects_go hc.1).mono ?_
  rintro e w'' ⟨ov,rfl,hown,hbb⟩
  obtain ⟨oa,oc,rfl,_⟩:=owns_rd_size hown
  exact ⟨oa,oc,rfl,hbb⟩)
 have hcn:(s.rss 0).length≤10:=(hb.st 0 hb.n1).le
 have HNA:=hid (fun (i:Nat) (hi:i<4) w'=>by have:=name_any (i:Int) w' (by unfold I64;omega);rw [nameN_pick i hi] at this;exact this)
 obtain ⟨C,hC⟩:∃C,C=L.C:=⟨_,rfl⟩
 obtain ⟨cn,hcn0⟩:∃cn,cn=(s.rss 0).length:=⟨_,rfl⟩
 rw [←hC] at HGET HOBJ ⊢
 rw [←hcn0] at HOBJ hcn ⊢
 clear hb hc hup hV hm hrd hq hC hcn0
 go_enter Tryz.func11,Tryz.ntmps11
 go_wp2_with fail
 go_loopw [5] (fun u wr=>∃i:Nat,i≤4∧u=.int .i64 i∧(∀j,j<i→Fit V l (nameN j))∧Below w.heap.size w wr) (fun u _=>4-(intOf u).toNat)
 case atStart=>exact ⟨0,Nat.zero_le _,rfl,fun j hj=>by omega,Below.refl _ _⟩
 case round =>
  obtain ⟨i,hi4,rfl,hfit,hbr⟩:=hrel
  have HFIT:=hid hfit
  clear hfit
  by_cases hlt:i<4
  ·have hlt':(i:Int)<4:=by omega
   go_wp2_with (first | (go_at_call 28;refine (HNA.out i hlt _).mono ?_;rintro e w1 ⟨rfl,hb1⟩;(have HB1:=hid (hbr.trans (hb1.mono hbr.size))))|(go_at_call 23;refine (HGET.out _ _ HB1.out).mono ?_;rintro e w2 ⟨gv,ge,rfl,hge,hb2⟩;(have HB2:=hid (HB1.out.trans (hb2.mono HB1.out.size)));(have HGE:=hid hge);clear hge)|fail)
   have HR2:=hid (HR.out.below HB2.out (Nat.le_refl _))
   obtain ⟨nm,hnm⟩:∃nm,nm=nameN i:=⟨_,rfl⟩
   rw [←hnm] at HGE ⊢
   have HNM:=hid hnm
   clear hnm
   have HI:=hid (show Fit V l nm→∀j,j<i+1→Fit V l (nameN j) from fun hf j hj=>by
    rcases Nat.lt_or_eq_of_le (Nat.lt_succ_iff.1 hj) with h' | h'
    ·exact HFIT.out j h'
    ·rw [h',←HNM.out];exact hf)
   have HNO:=hid (show ¬Fit V l nm→¬FitAll V cn l from fun hf h=>hf (by rw [HNM.out];exact h.1 i hlt))
   have HTK:=hid (show l.take m=l from List.take_of_length_le (Nat.le_of_eq HQ.out.symm))
   clear HFIT
   rcases HGE.out with ⟨rfl,hv⟩|⟨rfl,hv⟩
   ·have HV:=hid hv
    clear hv HGE
    go_loopw [9,10] (fun fo u wr=>∃k:Nat,k≤m∧u=.int .i64 k∧(∀p∈l.take k,p.1=nm→V nm=some p.2)∧(∃b:Bool,fo=.bool b∧(b=true↔∃p∈l.take k,p.1=nm))∧wr=w2) (fun _ u _=>m-(intOf u).toNat)
    case atStart=>exact ⟨0,Nat.zero_le _,rfl,by simp,⟨false,rfl,by simp⟩,rfl⟩
    case round =>
     obtain ⟨k,hk,rfl,hall,⟨fb,rfl,hfb⟩,rfl⟩:=hrel
     have HALL:=hid hall
     have HFB:=hid hfb
     clear hall hfb
     by_cases hkm:k<m
     ·have hkm':(k:Int)<(m:Int):=by omega
      have hkl:k<l.length:=by rw [←HQ.out];exact hkm
      obtain ⟨b,o,rfl,_,c0,c1⟩:=mem_cells HR2.out k hkl
      have HT1:=hid (mem_take hkl (fun p=>p.1=nm→V nm=some p.2))
      have HT2:=hid (ex_take hkl nm)
      have HMEM:=hid (show l[k]! ∈ l from by rw [getElem!_pos l k hkl];exact List.getElem_mem _)
      obtain ⟨a1,ha1⟩:∃a1,a1=(l[k]!).1:=⟨_,rfl⟩
      obtain ⟨a2,ha2⟩:∃a2,a2=(l[k]!).2:=⟨_,rfl⟩
      rw [←ha1] at c0
      rw [←ha2] at c1
      have HA1:=hid ha1
      have HA2:=hid ha2
      clear ha1 ha2
      by_cases e:a1=nm
      ·have he:(a1.toList == nm.toList)=true:=by rw [bytes_beq];simpa using e
       have HE:=hid e
       clear e
       by_cases e2:gv=a2
       ·have he2:(gv.toList == a2.toList)=true:=by rw [bytes_beq];simpa using e2
        have HE2:=hid e2
        clear e2
        go_wp2_with fail
        go_roundw
        case rel=>exact ⟨k+1,hkm,by go_num,HT1.out.2 ⟨HALL.out,fun _=>by rw [HV.out,HE2.out,HA2.out]⟩,⟨true,rfl,by rw [HT2.out];exact ⟨fun _=>.inr (by rw [←HA1.out,HE.out]),fun _=>rfl⟩⟩,trivial⟩
        case measure=>simp [intOf];omega
       ·have he2:(gv.toList == a2.toList)=false:=by rw [bytes_beq];simpa using e2
        have HE2:=hid e2
        clear e2
        go_wp2_with fail
        go_ret
        refine ⟨false,rfl,⟨fun h=>by (cases h),fun h=>absurd h (HNO.out fun hf=>HE2.out ?_)⟩,HB2.out⟩
        have:=hf.1 _ HMEM.out (by rw [←HA1.out,HE.out])
        rw [HV.out,←HA2.out] at this
        exact Option.some.inj this
      ·have he:(a1.toList == nm.toList)=false:=by rw [bytes_beq];simpa using e
       have HE:=hid e
       clear e
       go_wp2_with fail
       go_roundw
       case rel=>exact ⟨k+1,hkm,by go_num,HT1.out.2 ⟨HALL.out,fun e=>absurd (by rw [HA1.out];exact e) HE.out⟩,⟨fb,rfl,by rw [HT2.out,HFB.out];exact ⟨fun h=>.inl h,fun h=>h.elim (fun h=>h) (fun e=>absurd (by rw [HA1.out];exact e) HE.out)⟩⟩,trivial⟩
       case measure=>simp [intOf];omega
     ·have hkk:k=m:=by omega
      subst hkk
      have h1:=HALL.out
      have h2:=HFB.out
      rw [HTK.out] at h1 h2
      have H1:=hid h1
      have H2:=hid h2
      clear h1 h2 HALL HFB
      cases fb with
      | true =>
       go_wp2_with fail
       go_roundw
       case rel=>exact ⟨i+1,by omega,by go_num,HI.out ⟨H1.out,.inl (H2.out.1 rfl)⟩,HB2.out⟩
       case measure=>simp [intOf];omega
      | false =>
       go_wp2_with fail
       go_ret
       refine ⟨false,rfl,⟨fun h=>by (cases h),fun h=>absurd h (HNO.out fun hf=>?_)⟩,HB2.out⟩
       rcases hf.2 with h | h
       ·have:=H2.out.2 h
        cases this
       ·rw [HV.out] at h;cases h
   ·have HV:=hid hv
    clear hv HGE
    go_loopw [9,10] (fun fo u wr=>∃k:Nat,k≤m∧u=.int .i64 k∧(∀p∈l.take k,p.1≠nm)∧fo=.bool false∧wr=w2) (fun _ u _=>m-(intOf u).toNat)
    case atStart=>exact ⟨0,Nat.zero_le _,rfl,by simp,rfl,rfl⟩
    case round =>
     obtain ⟨k,hk,rfl,hall,rfl,rfl⟩:=hrel
     have HALL:=hid hall
     clear hall
     by_cases hkm:k<m
     ·have hkm':(k:Int)<(m:Int):=by omega
      have hkl:k<l.length:=by rw [←HQ.out];exact hkm
      obtain ⟨b,o,rfl,_,c0,c1⟩:=mem_cells HR2.out k hkl
      have HT1:=hid (mem_take hkl (fun p=>p.1≠nm))
      have HMEM:=hid (show l[k]! ∈ l from by rw [getElem!_pos l k hkl];exact List.getElem_mem _)
      obtain ⟨a1,ha1⟩:∃a1,a1=(l[k]!).1:=⟨_,rfl⟩
      obtain ⟨a2,ha2⟩:∃a2,a2=(l[k]!).2:=⟨_,rfl⟩
      rw [←ha1] at c0
      rw [←ha2] at c1
      have HA1:=hid ha1
      clear ha1 ha2
      by_cases e:a1=nm
      ·have he:(a1.toList == nm.toList)=true:=by rw [bytes_beq];simpa using e
       have HE:=hid e
       clear e
       go_wp2_with fail
       go_ret
       refine ⟨false,rfl,⟨fun h=>by (cases h),fun h=>absurd h (HNO.out fun hf=>?_)⟩,HB2.out⟩
       have:=hf.1 _ HMEM.out (by rw [←HA1.out,HE.out])
       rw [HV.out] at this
       cases this
      ·have he:(a1.toList == nm.toList)=false:=by rw [bytes_beq];simpa using e
       have HE:=hid e
       clear e
       go_wp2_with fail
       go_roundw
       case rel=>exact ⟨k+1,hkm,by go_num,HT1.out.2 ⟨HALL.out,by rw [←HA1.out];exact HE.out⟩,rfl,trivial⟩
       case measure=>simp [intOf];omega
     ·have hkk:k=m:=by omega
      subst hkk
      have h1:=HALL.out
      rw [HTK.out] at h1
      have H1:=hid h1
      clear h1 HALL
      go_wp2_with fail
      go_roundw
      case rel=>exact ⟨i+1,by omega,by go_num,HI.out ⟨fun p hp e=>absurd e (H1.out p hp),.inr HV.out⟩,HB2.out⟩
      case measure=>simp [intOf];omega
  ·have hi:i=4:=by omega
   subst hi
   by_cases hcm:cn=m
   ·have hcm':(cn:Int)=(m:Int):=by omega
    have HCM:=hid hcm
    clear hcm
    go_wp2_with (first | (go_at_call 37;refine (HOBJ.out _ hbr).mono ?_;rintro e w3 ⟨oa,oc,rfl,hb3⟩)|fail)
    go_ret
    exact ⟨true,rfl,⟨fun _=>⟨HFIT.out,by rw [HCM.out];exact HQ.out⟩,fun _=>rfl⟩,hbr.trans (hb3.mono hbr.size)⟩
   ·have hcm':¬(cn:Int)=(m:Int):=by omega
    have HCM:=hid hcm
    clear hcm
    go_wp2_with (first | (go_at_call 37;refine (HOBJ.out _ hbr).mono ?_;rintro e w3 ⟨oa,oc,rfl,hb3⟩)|fail)
    go_ret
    refine ⟨false,?_,⟨fun h=>by (cases h),fun h=>absurd (h.2.trans HQ.out.symm) HCM.out⟩,hbr.trans (hb3.mono hbr.size)⟩
    show Ending.returned (.bool ((cn:Int) == (m:Int)))=_
    rw [beq_eq_false_iff_ne.2 hcm']
end Go.Proofs.YtcegdgmbponapabGreatDoor