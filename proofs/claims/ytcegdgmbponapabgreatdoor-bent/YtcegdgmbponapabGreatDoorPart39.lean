/-
  What a step makes of the values, done or cut off: of lists alone.
  A coffer that is opened; one that was cut off, recovered or opened again over its images.
  cofferkeep.turned: a text with a byte put in, taken out or turned.
  cofferkeep.Bent.
-/
import Derived.Test.YtcegdgmbponapabGreatDoorPart38
namespace Go.Proofs.YtcegdgmbponapabGreatDoor
open Go.RowKit
theorem filter_one {α β:Type} [DecidableEq β] (f:α→β) (a:β):∀l:List α,(l.map f).Nodup→a∈l.map f→(l.filter (fun x=>!decide (f x=a))).length+1=l.length
 | [],_,h=>by simp at h
 | x :: l,hn,h=>by
  rw [List.map_cons,List.nodup_cons] at hn
  by_cases e:f x=a
  ·have hno:∀y∈l,f y≠a:=fun y hy e'=>hn.1 (by rw [e,←e'];exact List.mem_map_of_mem hy)
   rw [List.filter_cons_of_neg (by simp [e]),List.filter_eq_self.2 (fun y hy=>by simp [hno y hy])]
   rfl
  ·rw [List.filter_cons_of_pos (by simp [e])]
   have h':a∈l.map f:=by
    rcases List.mem_cons.1 h with h | h
    ·exact absurd h.symm e
    ·exact h
   have:=filter_one f a l hn.2 h'
   simp only [List.length_cons]
   omega
theorem Sorted.nodup {rs:List RecV} (h:Sorted rs):(rs.map RecV.name).Nodup:=by
 rw [List.nodup_iff_pairwise_ne,List.pairwise_map]
 exact h.pairwise.imp fun {a b} hab e=>by
  rw [e,cmpB_zero.2 rfl] at hab
  omega
theorem remR_one {rs:List RecV} (h:Sorted rs) {nm:ByteArray} (hy:hasName rs nm=true):(remR rs nm).length+1=rs.length :=
 filter_one RecV.name nm rs h.nodup (by obtain ⟨h1,h2⟩:=recOf_mem hy;rw [←h2];exact List.mem_map_of_mem h1)
section
variable {V:ByteArray→Option ByteArray} {l:List Mem} {nm:ByteArray} {cnt:Nat}
theorem FitAll.at (h:FitAll V cnt l) (a:Int):Fit V l (nameB a):=h.1 _ (pickN_lt _ _ (by decide))
theorem Fit.fresh (h:Fit V l nm) (hv:V nm=none):∀p∈l,p.1≠nm:=fun p hp e=>by
 have:=h.1 p hp e
 rw [hv] at this
 cases this
theorem FitAll.put (h:FitAll V cnt l) (hf:Fit V l nm) (hv:V nm=none) (v:ByteArray):FitAll (upd V nm (some v)) (cnt+1) (l++[(nm,v)]):=by
 refine ⟨fun i hi=>?_,by rw [List.length_append,h.2];rfl⟩
 by_cases e:nameN i=nm
 ·rw [e]
  refine ⟨fun p hp hpe=>?_,.inl ⟨(nm,v),List.mem_append_right _ (List.mem_singleton.2 rfl),rfl⟩⟩
  rcases List.mem_append.1 hp with hp | hp
  ·exact absurd hpe (hf.fresh hv p hp)
  ·rw [List.mem_singleton.1 hp]
   exact upd_self nm _
 ·have:=h.1 i hi
  refine ⟨fun p hp hpe=>?_,?_⟩
  ·rw [upd_ne _ e]
   rcases List.mem_append.1 hp with hp | hp
   ·exact this.1 p hp hpe
   ·rw [List.mem_singleton.1 hp] at hpe
    exact absurd hpe.symm e
  ·rw [upd_ne _ e]
   exact this.2.imp (fun ⟨p,hp,hpe⟩=>⟨p,List.mem_append_left _ hp,hpe⟩) id
theorem nodup_put (hn:(l.map Prod.fst).Nodup) (hf:∀p∈l,p.1≠nm) (v:ByteArray):((l++[(nm,v)]).map Prod.fst).Nodup:=by
 rw [List.map_append,List.nodup_append]
 refine ⟨hn,by simp,fun a ha b hb e=>?_⟩
 obtain ⟨p,hp,rfl⟩:=List.mem_map.1 ha
 have:b=nm:=by simpa using hb
 exact hf p hp (e.trans this)
theorem nodup_without (hn:(l.map Prod.fst).Nodup):((withoutL l nm).map Prod.fst).Nodup:=hn.sublist (List.filter_sublist.map _)
theorem FitAll.del (h:FitAll V (cnt+1) l) (hf:Fit V l nm) (hn:(l.map Prod.fst).Nodup) {v:ByteArray} (hv:V nm=some v):FitAll (upd V nm none) cnt (withoutL l nm):=by
 have hmem:nm∈l.map Prod.fst:=by
  rcases hf.2 with ⟨p,hp,e⟩|h
  ·rw [←e];exact List.mem_map_of_mem hp
  ·rw [hv] at h;cases h
 refine ⟨fun i hi=>?_,?_⟩
 ·by_cases e:nameN i=nm
  ·rw [e]
   refine ⟨fun p hp hpe=>?_,.inr (upd_self nm _)⟩
   have:=(List.mem_filter.1 hp).2
   simp [hpe] at this
  ·have:=h.1 i hi
   rw [show Fit (upd V nm none) (withoutL l nm) (nameN i)↔((∀p∈withoutL l nm,p.1=nameN i→V (nameN i)=some p.2)∧((∃p∈withoutL l nm,p.1=nameN i)∨V (nameN i)=none)) by unfold Fit;rw [upd_ne _ e]]
   refine ⟨fun p hp hpe=>this.1 p (List.mem_filter.1 hp).1 hpe,this.2.imp (fun ⟨p,hp,hpe⟩=>⟨p,List.mem_filter.2 ⟨hp,?_⟩,hpe⟩) id⟩
   rw [hpe]
   simp [e]
 ·have h1:(withoutL l nm).length+1=l.length:=filter_one Prod.fst nm l hn hmem
  have h2:=h.2
  omega
end
theorem settleL_five (g:List UInt8) (rs:List RecV):settleL (some (g,5)) rs=rs:=by unfold settleL;exact if_pos rfl
structure Fine (L:Seat) (s:Sta) (V:ByteArray→Option ByteArray) (l:List Mem):Prop where
 calm:Calm L s
 up:∀i,i<L.n→s.dn i=false
 vals:Vals L.key L.n s.rss s.X V
 fit:FitAll V (s.rss 0).length l
 nd:(l.map Prod.fst).Nodup
theorem xor_tape (a b:List UInt8) (h:b.length=a.length):∃x:List UInt8,x.length=a.length∧∀k,x.getD k 0=a.getD k 0^^^b.getD k 0:=by
 refine ⟨(List.range a.length).map fun i=>a.getD i 0^^^b.getD i 0,by simp,fun k=>?_⟩
 by_cases hk:k<a.length
 ·simp [hk]
 ·simp [hk,List.getElem?_eq_none (show b.length≤k by omega)]
section
variable {w w':World} {L:Seat} {s s':Sta} {V:ByteArray→Option ByteArray} {l:List Mem} {st:StepV}
theorem ValAt.refreshed {key n:Nat} {o:Ob} {xs ys P:Nat→List UInt8} {v tape:ByteArray} (hp:IsPlan o.mode o.t o.l n) (hm:o.mode=0) (h:ValAt key n o xs v) (ht:tape.size=Cof.tsize o.mode o.t*Cof.ngroups o.mode o.t o.l o.size)
  (hP:∀i,i<n→Cof.Good key (Cof.head o.mode o.t o.l n i o.epoch o.size o.name.data.toList) (Cof.ngroups o.mode o.t o.l o.size) (xs i) (P i))
  (hy:∀i,i<n→ys i=shardOf key ⟨o.name,0,o.t,o.l,o.size,o.epoch+1⟩ n i (Cof.sumRow (P i) ((Cof.split (List.replicate o.size 0) 0 o.t o.l n tape.data.toList).getD i []))):ValAt key n ⟨o.name,o.mode,o.t,o.l,o.size,o.epoch+1⟩ ys v:=by
 obtain ⟨hz,t0,ht0,hx⟩:=h
 have hbl:tape.data.toList.length=t0.length:=by rw [ba_len,ht,hz,ht0]
 obtain ⟨x,hx1,hx2⟩:=xor_tape t0 tape.data.toList hbl
 refine ⟨hz,x,by rw [hx1];exact ht0,fun i hi=>?_⟩
 have hg:Cof.Good key (Cof.head o.mode o.t o.l n i o.epoch o.size o.name.data.toList) (Cof.ngroups o.mode o.t o.l o.size) (xs i) _:=ValAt.good hp hi (by rw [ht0];simp) (by rw [hz];simp) (hx i hi)
 rw [hy i hi,good_unique (hP i hi) hg,hm]
 have:=split_sum o.mode o.t o.l n hp v.data.toList t0 tape.data.toList x i hi (by rw [ht0];simp) hbl hx1 hx2
 rw [ba_len,←hz,hm] at this
 rw [this]
theorem Bank.plan0 (h:Bank w L s) {nm:ByteArray} (hy:hasName (s.rss 0) nm=true):IsPlan (recOf (s.rss 0) nm).mode (recOf (s.rss 0) nm).t (recOf (s.rss 0) nm).l L.n:=(h.ok 0 h.n1 _ (recOf_mem hy).1).plan
theorem Bank.obAll (h:Bank w L s) (hc:Calm L s) {nm:ByteArray} (hy:hasName (s.rss 0) nm=true) (i:Nat) (hi:i<L.n):(recOf (s.rss i) nm).ob=(recOf (s.rss 0) nm).ob:=((h.held hc nm hy (recOf (s.rss 0) nm).ob rfl).2.1 i hi).2.1
theorem vals_ref (h:Bank w L s) (hf:Fine L s V l) {nm:ByteArray} (hy:hasName (s.rss 0) nm=true) {o:Ob} (ho:o=(recOf (s.rss 0) nm).ob) (hm:o.mode=0) {P:Nat→List UInt8} {ys:List RecV} {tape:ByteArray} (ht:tape.size=Cof.tsize o.mode o.t*Cof.ngroups o.mode o.t o.l o.size)
  (hP:∀i,i<L.n→Cof.Good L.key (Cof.head o.mode o.t o.l L.n i o.epoch o.size nm.data.toList) (Cof.ngroups o.mode o.t o.l o.size) ((recOf (s.rss i) nm).x s.X) (P i))
  (hN:News L s s' ⟨nm,0,o.t,o.l,o.size,o.epoch+1⟩ (fun i=>shardOf L.key ⟨nm,0,o.t,o.l,o.size,o.epoch+1⟩ L.n i (Cof.sumRow (P i) ((Cof.split (List.replicate o.size 0) 0 o.t o.l L.n tape.data.toList).getD i []))) ys) :
  Vals L.key L.n (refL L.n s.rss nm ys (2*L.n)) s'.X V:=by
 obtain ⟨v,hv,hval⟩:=hf.vals.yes nm hy
 have hon:o.name=nm:=by rw [ho];exact (recOf_mem hy).2
 have hp:IsPlan o.mode o.t o.l L.n:=by rw [ho];exact h.plan0 hy
 rw [←ho] at hval
 subst hon
 exact hf.vals.ref h.n1 h.so (h.hasAll hf.calm) hy (fun i hi=>(h.obAll hf.calm hy i hi).trans ho.symm) rfl hN.old hv (ValAt.refreshed hp hm hval ht hP hN.new)
theorem vals_put (h:Bank w L s) (hf:Fine L s V l) {nm:ByteArray} {mode t l':Nat} {v tape:ByteArray} (hno:hasName (s.rss 0) nm=false) {ys:List RecV} (ht:tape.size=Cof.tsize mode t*Cof.ngroups mode t l' v.size)
  (hN:News L s s' ⟨nm,mode,t,l',v.size,0⟩ (fun i=>shardOf L.key ⟨nm,mode,t,l',v.size,0⟩ L.n i ((Cof.split v.data.toList mode t l' L.n tape.data.toList).getD i [])) ys) :
  Vals L.key L.n (putL s.rss ys L.n) s'.X (upd V nm (some v)) :=
 hf.vals.put h.n1 h.so (h.hasAll hf.calm) (fun i hi=>by rw [hf.calm.2.hasName h.n1 h.so nm i hi];exact hno) rfl (fun i hi=>(hN.ob i hi).1) hN.old ⟨rfl,tape.data.toList,by rw [ba_len];exact ht,hN.new⟩
theorem len_ref (rss:Nat→List RecV) (n k i:Nat) (nm:ByteArray) (ys:List RecV):(refL n rss nm ys k i).length=(rss i).length:=by unfold refL;simp
theorem Fine.done (h:Bank w L s) (hf:Fine L s V l) (hd:Did L s st 0 s') (h3:pickN st.kind 7≠3) (h4:pickN st.kind 7≠4):∃V',Fine L s' V' (behindL l st):=by
 have hn1:=h.n1
 have idle:pickN st.kind 7≠0→pickN st.kind 7≠1→behindL l st=l:=fun h0 h1=>by unfold behindL;rw [if_neg h0,if_neg h1]
 rcases hd with ⟨_,h0,_⟩|⟨_,hd | hd | hd⟩|⟨hk,_⟩|⟨hk,_,rfl⟩|⟨hk,_,⟨_,rfl⟩|⟨ht,_⟩⟩
 ·exact absurd rfl h0
 ·obtain ⟨hk,hno,hfew,ys,j,tape,htp,hN,hr,he⟩:=hd
  rcases he with ⟨rfl,_,_,hc⟩|⟨_,e,_⟩
  ·have hv:=vals_put h hf hno htp hN
   have hVn:=hf.vals.no _ hno
   have hfit:=hf.fit.at st.a
   have e0:behindL l st=l++[(nameB st.a,st.v.extract 0 60)]:=by unfold behindL;rw [if_pos hk]
   rw [e0]
   refine ⟨upd V (nameB st.a) (some (st.v.extract 0 60)),hc,fun i hi=>(hN.dn i hi).trans (hf.up i hi),?_,?_,nodup_put hf.nd (hfit.fresh hVn) _⟩
   ·rw [show s'.rss=putL s.rss ys L.n from funext hr]
    exact hv
   ·rw [hr 0,show putL s.rss ys L.n 0=insR (s.rss 0) (ys[0]!) by unfold putL;rw [if_pos (by omega)],insR_length]
    exact hf.fit.put hfit hVn _
  ·cases e
 ·obtain ⟨hk,hy,j,hdn,hX,hr,he⟩:=hd
  rcases he with ⟨rfl,_,_,hc⟩|⟨_,e,_⟩
  ·obtain ⟨v,hv,_⟩:=hf.vals.yes _ hy
   have hfit:=hf.fit.at st.a
   have e0:behindL l st=withoutL l (nameB st.a):=by unfold behindL;rw [if_neg (by omega),if_pos hk]
   rw [e0]
   refine ⟨upd V (nameB st.a) none,hc,fun i hi=>by rw [hdn];exact hf.up i hi,?_,?_,nodup_without hf.nd⟩
   ·rw [show s'.rss=delL s.rss (nameB st.a) L.n from funext hr,hX]
    exact hf.vals.del hn1 h.so (h.hasAll hf.calm)
   ·rw [hr 0,show delL s.rss (nameB st.a) L.n 0=remR (s.rss 0) (nameB st.a) by unfold delL;rw [if_pos (by omega)]]
    have h5:=hf.fit
    rw [←remR_one (h.so 0 hn1) hy] at h5
    exact h5.del hfit hf.nd hv
  ·cases e
 ·obtain ⟨hk,hy,o,ho,hm,he1,P,ys,j,tape,htp,hP,hN,hr,he⟩:=hd
  rcases he with ⟨rfl,_,_,hc⟩|⟨_,e,_⟩
  ·rw [idle (by omega) (by omega)]
   refine ⟨V,hc,fun i hi=>(hN.dn i hi).trans (hf.up i hi),?_,?_,hf.nd⟩
   ·rw [show s'.rss=refL L.n s.rss (nameB st.a) ys (2*L.n) from funext hr]
    exact vals_ref h hf hy ho hm htp hP hN
   ·rw [hr 0,len_ref]
    exact hf.fit
  ·cases e
 ·exact absurd hk (fun h=>h.elim h3 h4)
 ·rw [idle (by omega) (by omega)]
  exact ⟨V,⟨hf.calm.1,hf.calm.2⟩,hf.up,hf.vals,hf.fit,hf.nd⟩
 ·rw [idle (by omega) (by omega)]
  exact ⟨V,hf⟩
 ·have:=ht.1
  rw [hf.calm.1] at this
  cases this
theorem Fine.refused {k:Int} (hd:Did L s st k s') (h0:k≠0) (h1:k≠1):s'=s:=by
 rcases hd with ⟨h,_⟩|⟨_,hd | hd | hd⟩|⟨_,hk,_⟩|⟨_,hk,_⟩|⟨_,hk,_⟩
 ·exact h
 ·obtain ⟨_,_,_,ys,j,tape,_,_,_,he⟩:=hd
  rcases he with ⟨_,e,_⟩|⟨_,e,_⟩
  ·exact absurd e h0
  ·exact absurd e h1
 ·obtain ⟨_,_,j,_,_,_,he⟩:=hd
  rcases he with ⟨_,e,_⟩|⟨_,e,_⟩
  ·exact absurd e h0
  ·exact absurd e h1
 ·obtain ⟨_,_,o,_,_,_,P,ys,j,tape,_,_,_,_,he⟩:=hd
  rcases he with ⟨_,e,_⟩|⟨_,e,_⟩
  ·exact absurd e h0
  ·exact absurd e h1
 ·exact absurd hk h0
 ·exact absurd hk h0
 ·exact absurd hk h0
end
theorem Bank.not_mine {w:World} {L:Seat} {s:Sta} (h:Bank w L s) {b:Nat} {cs:Array Value} {t:TypeId} {fz:Nat × Nat} (hb:w.heap[b]?=some (.cells cs t fz)) (h1:t≠96) (h2:t≠100) (h3:t≠127) (h4:t≠5):¬Mine L s b:=by
 rintro (e | ⟨i,hi,e | e⟩|⟨i,hi,r,hr,e⟩)
 ·rw [e,h.vp.hp] at hb
  cases hb
  exact h1 rfl
 ·rw [e,(h.st i hi).hp] at hb
  cases hb
  exact h2 rfl
 ·exact row_nf (h.st i hi).row hb (Ne.symm h3) e
 ·obtain ⟨_,cs',fz',h'⟩:=(h.ok i hi r hr).at e
  rw [h'] at hb
  cases hb
  exact h4 rfl
theorem Memo.mine {w w':World} {L:Seat} {s:Sta} (h:Bank w L s) {base:Nat} {v:Value} {l:List Mem} (hm:Memo w base v l) (hs:Spared (Mine L s) w w'):Memo w' base v l:=by
 refine hm.spared hs fun b hb=>?_
 rcases hm.2 with ⟨h8,_⟩|⟨g,cap,cur,h8,_,h4,_⟩
 ·rw [h8] at hb;cases hb
 ·rw [h8] at hb
  cases hb
  exact h.not_mine h4 (by decide) (by decide) (by decide) (by decide)
theorem open_bank (n key:Nat) (w:World) (h1:1≤n) (h8:n≤8) (hk:key<18446744073709551616) (hT:Tab w) (hE:ErrType w) :
  Calls Tryz.prog 6 #[.int .i64 n,.int .u64 key] w fun e w'=>∃L s,e=.returned (.pointer (some ⟨L.C,0,none⟩))∧Bank w' L s∧L.base=w.heap.size∧L.n=n∧L.key=key∧(∀i,s.rss i=[])∧(∀i,s.dn i=false)∧s.p=⟨0,false,0,false⟩∧Below w.heap.size w w':=by
 refine (copen_any n key w h1 h8).mono ?_
 rintro e w' ⟨C,w1,ps,v,rfl,hop,rfl,rfl⟩
 obtain ⟨B,bc,hvt,hst,hne,hB,hps⟩:=hop.parts h1
 have hal:=(Below.refl w1.heap.size w1).alloc (Nat.le_refl _) (.cells #[.pointer (some ⟨w.heap.size,0,none⟩)] 59)
 have hs:Spared (fun _=>False) w1 (w1.alloc (.cells #[.pointer (some ⟨w.heap.size,0,none⟩)] 59)):=Spared.ofBelow hal (Nat.le_refl _)
 have hb:Below w.heap.size w (w1.alloc (.cells #[.pointer (some ⟨w.heap.size,0,none⟩)] 59)):=hop.bl.trans (hal.mono hop.bl.size)
 refine ⟨⟨w.heap.size,w1.heap.size,w.heap.size,key,n,B,bc,fun i=>ps[i]!⟩,⟨fun _=>false,fun _=>.slice none 0 0,fun _=>[],⟨0,false,0,false⟩,fun _=>[]⟩,rfl,?_,rfl,rfl,rfl,fun _=>rfl,fun _=>rfl,rfl,hb⟩
 refine ⟨alloc_at w1 _,?_,h1,h8,hk,fun i hi=>(hst i hi).keeps hs (fun h=>h) (fun _ _ h=>h),?_,?_,⟨hT.keeps hb (Nat.le_refl _),hE.keeps hb (Nat.le_refl _),hT.2,hE.2,hb.size⟩,hop.bl.size,Nat.le_refl _,hB,hps,?_,?_,?_⟩
 ·exact Vp.keeps (p:=⟨0,false,0,false⟩) hvt hs (fun h=>h) (fun h=>h)
 ·intro i j hi hj hij
  rcases Nat.lt_or_gt_of_ne hij with h | h
  ·exact hne i j h hj
  ·exact (hne j i h hi).symm
 ·intro i j _ _ _ b hb
  cases hb
 ·intro i _ b hb
  cases hb
 ·intro i _ r hr
  cases hr
 ·intro i j _ _ r hr
  cases hr
theorem fine_open {L:Seat} {s:Sta} (hr:∀i,s.rss i=[]) (hd:∀i,s.dn i=false) (hp:s.p=⟨0,false,0,false⟩):Fine L s (fun _=>none) []:=by
 have hno:∀i nm,hasName (s.rss i) nm=false:=fun i nm=>by rw [hr i];rfl
 refine ⟨⟨by rw [hp],fun i _=>by rw [hr i,hr 0],fun i _ r hr'=>?_,fun i _ r hr'=>?_⟩,fun i _=>hd i,⟨fun nm hy=>?_,fun _ _=>rfl⟩,⟨fun i _=>⟨fun p hp=>(by cases hp),.inr rfl⟩,by rw [hr 0];rfl⟩,List.nodup_nil⟩
 ·rw [hr i] at hr';cases hr'
 ·rw [hr i] at hr';cases hr'
 ·rw [hno 0 nm] at hy;cases hy
theorem vals_back {w:World} {L L':Seat} {s' s'':Sta} {V:ByteArray→Option ByteArray} (hb:Bank w L' s'') (hc:Calm L' s'') (hn:L'.n=L.n) (hk:L'.key=L.key) (hv:Vals L.key L.n (fun i=>settleL (cutOf L.n s'.rss) (s'.rss i)) s'.X V)
  (ha:∀i,i<L.n→Alike s''.X s'.X (s''.rss i) (settleL (cutOf L.n s'.rss) (s'.rss i))):Vals L'.key L'.n s''.rss s''.X V∧(s''.rss 0).length=(settleL (cutOf L.n s'.rss) (s'.rss 0)).length:=by
 have hn1:1≤L.n:=by rw [←hn];exact hb.n1
 rw [hn,hk]
 refine ⟨hv.alike hn1 (fun nm hy i hi=>?_) ha,(ha 0 hn1).len⟩
 rw [←(ha i hi).has nm]
 refine hb.hasAll hc nm ?_ i (by rw [hn];exact hi)
 rw [(ha 0 hn1).has nm]
 exact hy
theorem strs_map (rows:List (List UInt8)):strs rows=(rows.map fun r=>(⟨r.toArray⟩:ByteArray)).map Value.string:=by
 simp [strs,str]
theorem images_texts {w:World} {L:Seat} {s:Sta} (h:Bank w L s):((imagesOf L s).map fun r=>(⟨r.toArray⟩:ByteArray)).length=L.n∧∀i,i<L.n→(((imagesOf L s).map fun r=>(⟨r.toArray⟩:ByteArray))[i]!).data.toList=imageOf L.n i (s.rss i) s.X∧(((imagesOf L s).map fun r=>(⟨r.toArray⟩:ByteArray))[i]!).size≤3000:=by
 refine ⟨by simp [imagesOf],fun i hi=>?_⟩
 have e:(((imagesOf L s).map fun r=>(⟨r.toArray⟩:ByteArray))[i]!).data.toList=imageOf L.n i (s.rss i) s.X:=by
  rw [getElem!_pos _ i (by simp [imagesOf];exact hi)]
  simp [imagesOf]
 refine ⟨e,?_⟩
 rw [←ba_len,e]
 have h1:=imgOf_len (h.ok i hi) i (s.rss i).length (Nat.le_refl _)
 have h2:=(h.st i hi).le
 unfold imageOf
 omega
theorem Bank.reopen_go {w w1:World} {L:Seat} {s:Sta} (h:Bank w L s) (hcut:∃o,cutOf L.n s.rss=some o) (hb1:Below w.heap.size w w1) (g:Nat) (c:Nat) (hrow:Rd w1 (some ⟨g,0,none⟩) (strs (imagesOf L s))) :
  Calls Tryz.prog 10 #[.slice (some ⟨g,0,none⟩) L.n c,.int .u64 L.key] w1 fun e w'=>∃L' s',e=.returned (.tuple #[.pointer (some ⟨L'.C,0,none⟩),.int .i64 0])∧Bank w' L' s'∧Calm L' s'∧L'.n=L.n∧L'.key=L.key∧w1.heap.size≤L'.base∧(∀i,i<L.n→s'.dn i=false)∧(∀i,i<L.n→Alike s'.X s.X (s'.rss i) (settleL (cutOf L.n s.rss) (s.rss i)))∧Below w1.heap.size w1 w':=by
 obtain ⟨hl,hi⟩:=images_texts h
 have h':=h.below hb1
 have hn8:=h.n8
 refine (creopen_any ((imagesOf L s).map fun r=>(⟨r.toArray⟩:ByteArray)) (some ⟨g,0,none⟩) L.n c L.key w1 hl.symm (by unfold maxLen;omega) (by rw [←strs_map];exact hrow) (fun i hin=>Nat.le_trans (hi i hin).2 (by omega)) h.hk h'.G.tb h'.G.et).mono ?_
 rintro e w' (⟨_,hun,_⟩|⟨C,V,B,sp,vs,rss,X,rfl,hbank,hcalm,himg,hb⟩)
 ·exact absurd hun (h.readable hl (fun i hin=>(hi i hin).1) hcut)
 ·exact ⟨_,_,rfl,hbank,hcalm,rfl,rfl,Nat.le_refl _,fun _ _=>rfl,fun i hin=>himg.back h hl (fun i hin=>(hi i hin).1) i hin,hb⟩
theorem Alike.refl (X:Nat→List UInt8) (rs:List RecV):Alike X X rs rs:=rfl
end Go.Proofs.YtcegdgmbponapabGreatDoor
namespace Go.Proofs.YtcegdgmbponapabGreatDoor
open Go.RowKit
attribute [local go_sem ↓] Go.wp_at_zero Go.wp_at_succ
set_option maxRecDepth 100000 in
set_option maxHeartbeats 400000 in
theorem pick_big (c:Int) (n:Nat) (w:World) (h1:-9223372036854775808≤c) (h2:c≤9223372036854775807) (hn:0<n) (hm:n≤1099511627776) :
  Calls Tryz.prog 5 #[.int .i64 c,.int .i64 n] w fun e w'=>e=.returned (.int .i64 (pickN c n))∧w'=w:=by
 have hn0:n≠0:=by omega
 by_cases hc:c<0
 ·go_enter Tryz.func5,Tryz.ntmps5
  go_wp2
  go_ret
  exact ⟨ret_int (by rw [←pick_neg hc,Int.neg_tmod]),rfl⟩
 ·go_enter Tryz.func5,Tryz.ntmps5
  go_wp2
  go_ret
  exact ⟨ret_int (by rw [←pick_pos (by omega),Int.tmod_eq_emod_of_nonneg (by omega)]),rfl⟩
set_option maxRecDepth 100000 in
set_option maxHeartbeats 1000000 in
theorem turned_any (s:ByteArray) (pl how b:Int) (w:World) (hs:s.size≤3000) (hp1:-9223372036854775808≤pl) (hp2:pl≤9223372036854775807) (hh1:-9223372036854775808≤how) (hh2:how≤9223372036854775807) (hb1:-9223372036854775808≤b) (hb2:b≤9223372036854775807) :
  Calls Tryz.prog 12 #[.string s,.int .i64 pl,.int .i64 how,.int .i64 b] w fun e w'=>∃t:ByteArray,e=.returned (.string t)∧t.size≤4000∧Below w.heap.size w w':=by
 have HP1:=hid (fun w'=>pick_big b 256 w' hb1 hb2 (by decide) (by decide))
 have HP2:=hid (fun w'=>pick_big pl (s.size+1) w' hp1 hp2 (by omega) (by omega))
 have HP3:=hid (fun w'=>pick_big how 3 w' hh1 hh2 (by decide) (by decide))
 have hl1:pickN b 256<256:=pickN_lt _ _ (by decide)
 have hl2:pickN pl (s.size+1)<s.size+1:=pickN_lt _ _ (by omega)
 have hl3:pickN how 3<3:=pickN_lt _ _ (by decide)
 generalize pickN b 256=pb at *
 generalize pickN pl (s.size+1)=i at *
 generalize pickN how 3=ph at *
 obtain ⟨y,hy⟩:∃y:UInt8,y=UInt8.ofNat pb:=⟨_,rfl⟩
 have hyb:(pb:Int)=(y.toNat:Int):=by rw [hy,UInt8.toNat_ofNat'];omega
 have hmod:(pb:Int) % 256=(pb:Int):=by omega
 have hsi:((s.size+1:Nat):Int)=(s.size:Int)+1:=by omega
 rw [hsi] at HP2
 have hwr:IntKind.u8.wrap (pb:Int)=(pb:Int):=by rw [IntKind.wrap_u8];omega
 clear hy hp1 hp2 hh1 hh2 hb1 hb2 hsi
 go_enter Tryz.func12,Tryz.ntmps12
 go_wp2_with fail
 refine (HP1.out _).mono ?_
 rintro e w1 ⟨rfl,hw1⟩
 obtain rfl:=hw1.symm
 have hcv:=conv_string (w.alloc (.cells #[.int .u8 y.toNat] 5)) (some ⟨w.heap.size,0,none⟩) 1 1 [y] rfl (owns_rd (owns_of_block (base:=0) (L:=[.int .u8 y.toNat]) (e:=5) (by show (w.heap.push _)[w.heap.size]?=_;simp) (Nat.zero_le _) rfl (by show 1≤maxLen;unfold maxLen;omega)))
 have hba:=(Below.refl w.heap.size w).alloc (Nat.le_refl _) (.cells #[.int .u8 y.toNat] 5)
 clear HP1 hmod hwr
 go_wp2_with fail
 obtain ⟨w2,hw2⟩:∃w2,w2=w.alloc (.cells #[.int .u8 y.toNat] 5):=⟨_,rfl⟩
 rw [←hw2] at hba hcv ⊢
 clear hcv hw2
 refine (HP2.out _).mono ?_
 rintro e w3 ⟨rfl,hw3⟩
 obtain rfl:=hw3.symm
 clear HP2
 obtain ⟨c,hc⟩:∃c:ByteArray,c=⟨#[y]⟩:=⟨_,rfl⟩
 have hcs:c.size=1:=by rw [hc];rfl
 rw [←hc]
 clear hc
 have hsum1:¬9223372036854775807<s.size+c.size:=by omega
 by_cases h0:s=⟨#[]⟩
 ·subst h0
  go_wp2_with fail
  go_ret
  refine ⟨_,rfl,?_,hba⟩
  rw [ByteArray.size_append]
  omega
 ·have he:s.toList.isEmpty=false:=by
   have:=bytes_beq s ⟨#[]⟩
   rw [decide_eq_false h0] at this
   cases hq:s.toList with
   | nil=>rw [hq] at this;simp at this
   | cons a l=>rfl
  clear h0
  by_cases hi:i=s.size
  ·subst hi
   go_wp2_with fail
   go_ret
   refine ⟨_,rfl,?_,hba⟩
   rw [ByteArray.size_append]
   omega
  ·have hlt:i<s.size:=by omega
   have hlt':(i:Int)<(s.size:Int):=by omega
   have hne:((i:Int) == (s.size:Int))=false:=beq_eq_false_iff_ne.2 (by omega)
   have z1:(s.extract 0 i).size=i:=by simp;omega
   have z2:(s.extract i s.size).size=s.size-i:=by simp
   have z3:(s.extract (i+1) s.size).size=s.size-(i+1):=by simp
   have hs1:¬9223372036854775807<(s.extract 0 i).size+c.size:=by omega
   have hs2:¬9223372036854775807<((s.extract 0 i)++c).size+(s.extract i s.size).size:=by rw [ByteArray.size_append];omega
   have hs3:¬9223372036854775807<(s.extract 0 i).size+(s.extract (i+1) s.size).size:=by omega
   have hs4:¬9223372036854775807<((s.extract 0 i)++c).size+(s.extract (i+1) s.size).size:=by rw [ByteArray.size_append];omega
   go_wp2_with fail
   refine (HP3.out _).mono ?_
   rintro e w3 ⟨rfl,hw3⟩
   obtain rfl:=hw3.symm
   clear HP3
   have fin1:(s.extract 0 i++c++s.extract i s.size).size≤4000:=by rw [ByteArray.size_append,ByteArray.size_append];omega
   have fin2:(s.extract 0 i++s.extract (i+1) s.size).size≤4000:=by rw [ByteArray.size_append];omega
   have fin3:(s.extract 0 i++c++s.extract (i+1) s.size).size≤4000:=by rw [ByteArray.size_append,ByteArray.size_append];omega
   have FIN1:=hid fin1
   have FIN2:=hid fin2
   have FIN3:=hid fin3
   have hi1:(i:Int)+1≤(s.size:Int):=by omega
   have hi0:(i:Int)≤(s.size:Int):=by omega
   have hw1:IntKind.i64.wrap ((i:Int)+1)=(i:Int)+1:=by rw [IntKind.wrap_i64];omega
   clear fin1 fin2 fin3 z1 z2 z3 hi
   rcases show ph=0∨ph=1∨ph=2 by omega with rfl | rfl | rfl
   ·go_wp2_with fail
    go_region
    go_wp2_with fail
    go_ret
    exact ⟨_,rfl,FIN1.out,hba.drew⟩
   ·go_wp2_with fail
    go_region
    go_wp2_with fail
    go_ret
    exact ⟨_,rfl,FIN2.out,hba.drew⟩
   ·go_wp2_with fail
    go_region
    go_wp2_with fail
    go_ret
    exact ⟨_,rfl,FIN3.out,hba.drew⟩
theorem Did.uncut {L:Seat} {s s':Sta} {st:StepV} {k:Int} (hd:Did L s st k s') (hc:Calm L s) (hp:s.p.crashes=false) (h2:pickN st.kind 7≤2):k≠1∧s'.p.crashes=false:=by
 have ends:∀m j,EndsK L s s' m j k→k≠1∧s'.p.crashes=false:=fun m j he=>by
  rcases he with ⟨_,rfl,h,_⟩|⟨_,_,⟨_,h⟩,_⟩
  ·refine ⟨by decide,?_⟩
   rw [h,(Pen.ticks_crashes s.p j).1]
   exact hp
  ·rw [Pen.free s.p hp j] at h
   cases h
 rcases hd with ⟨rfl,_,h1⟩|⟨_,hd | hd | hd⟩|⟨h,_⟩|⟨h,_⟩|⟨h,_⟩
 ·exact ⟨h1 hc,hp⟩
 ·obtain ⟨_,_,_,_,j,_,_,_,_,he⟩:=hd
  exact ends _ _ he
 ·obtain ⟨_,_,j,_,_,_,he⟩:=hd
  exact ends _ _ he
 ·obtain ⟨_,_,_,_,_,_,_,_,j,_,_,_,_,_,he⟩:=hd
  exact ends _ _ he
 ·omega
 ·omega
 ·omega
structure Held2 (wr w:World) (lv:Value) (L:Seat) (s:Sta) (V:ByteArray→Option ByteArray) (l:List Mem):Prop where
 bank:Bank wr L s
 fine:Fine L s V l
 memo:Memo wr 0 lv l
 free:s.p.crashes=false
 base:w.heap.size≤L.base
 bel:Below w.heap.size w wr
theorem Held2.len {wr w:World} {lv:Value} {L:Seat} {s:Sta} {V:ByteArray→Option ByteArray} {l:List Mem} (h:Held2 wr w lv L s V l):l.length≤10:=by
 rw [←h.fine.fit.2]
 exact (h.bank.st 0 h.bank.n1).le
def bentR (g n at' pi pq:Nat) (how by':Int) (pl:Int) (S:ByteArray):Nat→Value→World→Prop
 | 0,v,_=>v=.slice (some ⟨g,0,none⟩) n n
 | 1,v,_=>v=.int .i64 pi
 | 2,v,_=>v=.slice (some ⟨g,0,none⟩) n n
 | 3,v,_=>v=.int .i64 pi
 | 4,v,_=>v=.pointer (some ⟨g,pi,none⟩)
 | 5,v,_=>v=.string S
 | 6,v,_=>v=.int .i64 pl
 | 7,v,_=>v=.int .i64 at'
 | 8,v,_=>v=.int .i64 n
 | 9,v,_=>v=.int .i64 pq
 | 10,v,_=>v=.int .i64 how
 | 11,v,_=>v=.int .i64 by'
 | 12,v,_=>∃t:ByteArray,v=.string t∧t.size≤4000
 | 13,v,_=>v=.pointer (some ⟨g,pi,none⟩)
 | _,_,_=>False
theorem bentR_keeps (g n at' pi pq:Nat) (how by' pl:Int) (S:ByteArray) (j:Nat) (v:Value) (w w':World) (h:bentR g n at' pi pq how by' pl S j v w) (_:Below w.heap.size w w'):bentR g n at' pi pq how by' pl S j v w':=by
 unfold bentR at h ⊢
 split at h<;>exact h
theorem owns_string_set {w:World} {base g n:Nat} {imgs:List ByteArray} (h:w.ownsRow base 9 1 (.slice (some ⟨g,0,none⟩) n n) n (imgs.map .string)) (i:Nat) (t:ByteArray):(w.setCell ⟨g,i,none⟩ (.string t)).ownsRow base 9 1 (.slice (some ⟨g,0,none⟩) n n) n ((imgs.set i t).map .string):=by
 have:=(h.stored i (.string t)).1
 rw [List.map_set]
 exact this
set_option maxRecDepth 100000 in
set_option maxHeartbeats 4000000 in
theorem bent_any (rn:Int) (key:Nat) (ss:List StepV) (sa:Option Addr) (q sc:Nat) (pl how by':Int) (w:World) (hrn:I64 rn) (hpl:I64 pl) (hhow:I64 how) (hby:I64 by') (hk:key<18446744073709551616)
  (hq:q=ss.length) (hql:q≤maxLen) (hsr:Rd w sa (stepCells ss)) (hok:∀s∈ss,s.Ok) (hT:Tab w) (hE:ErrType w) :
  Calls Tryz.prog 3 #[.int .i64 rn,.int .u64 key,.slice sa q sc,.int .i64 pl,.int .i64 how,.int .i64 by'] w fun e w'=>e=.returned (.bool true)∧Below w.heap.size w w':=by
 have HPI:=hid (fun w'=>pick_any rn 8 w' hrn.1 hrn.2 (by decide) (by decide))
 have hn8:pickN rn 8<8:=pickN_lt _ _ (by decide)
 have HQ:=hid hq
 have HQL:=hid hql
 have HSR:=hid hsr
 have HOK:=hid hok
 have HTE:=hid (show Tab w∧ErrType w∧key<18446744073709551616 from ⟨hT,hE,hk⟩)
 have HPL:=hid hpl
 have HHOW:=hid hhow
 have HBY:=hid hby
 unfold maxLen at hql
 obtain ⟨n,hn⟩:∃n,n=1+pickN rn 8:=⟨_,rfl⟩
 have HOP:=hid (open_bank n key w (by omega) (by omega) hk hT hE)
 have hnI:(1:Int)+(pickN rn 8:Nat)=(n:Nat):=by omega
 have hn1:1≤n:=by omega
 have hn88:n≤8:=by omega
 generalize pickN rn 8=pn at *
 clear hq hsr hok hT hE hn hpl hhow hby
 go_enter Tryz.func3,Tryz.ntmps3
 go_wp2_with fail
 refine (HPI.out _).mono ?_
 rintro e wz ⟨rfl,hwz⟩
 obtain rfl:=hwz.symm
 clear HPI
 go_wp2_with fail
 refine HOP.out.mono ?_
 rintro e w1 ⟨L,s,rfl,hbank,hLb,hLn,hLk,hrs,hdn,hp,hb1⟩
 have HH:=hid (show ∃V l,Held2 w1 w (.slice none 0 0) L s V l from ⟨_,_,hbank,fine_open hrs hdn hp,World.ownsRow_nil _ _ _ _,by rw [hp],Nat.le_of_eq hLb.symm,hb1⟩)
 clear hbank hLb hrs hdn hp HOP
 have HL:=hid (show L.n=n∧L.key=key from ⟨hLn,hLk⟩)
 clear hLn hLk
 go_wp2_with fail
 go_loopw [15,16] (fun lv u wr=>∃(k:Nat) (s:Sta) (V:ByteArray→Option ByteArray) (l:List Mem),u=.int .i64 k∧k≤q∧Held2 wr w lv L s V l) (fun _ u _=>q-(intOf u).toNat)
 case atStart =>
  obtain ⟨V,l,h⟩:=HH.out
  exact ⟨0,s,V,l,rfl,Nat.zero_le _,h⟩
 case round =>
  obtain ⟨k,s,V,l,rfl,hkq,hh⟩:=hrel
  obtain ⟨la,lc,hlv,_,_⟩:=hh.memo.parts
  subst hlv
  have HH2:=hid hh
  have hb:=hh.bel
  clear hh HH
  by_cases hlt:k<q
  ·have hlt':(k:Int)<(q:Int):=by omega
   obtain ⟨b,o,rfl,hblt,_⟩:=HSR.out.pos (by rw [stepCells_length,←HQ.out];omega)
   obtain ⟨st,hste⟩:∃st,st=ss[k]'(by rw [←HQ.out];exact hlt):=⟨_,rfl⟩
   obtain ⟨_,k0,k1,k2,k3,k4,k5,k6,k7,k8,k9⟩:=step_at (HSR.out.below hb (Nat.le_refl _)) k (by rw [←HQ.out];exact hlt) st hste
   have hsok:st.Ok:=by rw [hste];exact HOK.out _ (List.getElem_mem _)
   have HSOK:=hid hsok
   have HPK:=hid (fun w'=>pick_any st.kind 7 w' hsok.kind.1 hsok.kind.2 (by decide) (by decide))
   have HSTA:=hid (fun w' (hb:Below w.heap.size w w')=>step_at (HSR.out.below hb (Nat.le_refl _)) k (by rw [←HQ.out];exact hlt) st hste)
   clear hste hsok
   obtain ⟨ln,hln⟩:∃ln,ln=l.length:=⟨_,rfl⟩
   rw [←hln]
   have HLN:=hid hln
   clear hln
   go_wp2_with fail
   refine (HPK.out _).mono ?_
   rintro e w2' ⟨rfl,hw2⟩
   obtain rfl:=hw2.symm
   clear HPK
   by_cases h3:2<pickN st.kind 7
   ·have h3':(2:Int)<((pickN st.kind 7:Nat):Int):=by omega
    clear HSTA
    generalize pickN st.kind 7=pk at *
    go_wp2_with fail
    go_roundw
    case rel=>exact ⟨k+1,s,V,l,by go_num,hlt,by rw [HLN.out];exact HH2.out⟩
    case measure=>simp [intOf];omega
   ·have h3':¬(2:Int)<((pickN st.kind 7:Nat):Int):=by omega
    have H3:=hid (show pickN st.kind 7≤2 by omega)
    clear h3
    have HDO:=hid (do_any HH2.out.bank (.inl HH2.out.fine.calm) st HSOK.out)
    rw [HL.out.1] at HDO
    unfold StepV.val at HDO
    obtain ⟨pk,hpk⟩:∃pk,pk=pickN st.kind 7:=⟨_,rfl⟩
    rw [←hpk] at h3' ⊢
    clear hpk
    go_wp2_with fail
    refine HDO.out.mono ?_
    rintro e w3 ⟨v,rfl,kk,s3,rfl,hb3,hdid,hsp⟩
    obtain ⟨hk1,hfr3⟩:=hdid.uncut HH2.out.fine.calm HH2.out.free H3.out
    have hm3:=HH2.out.memo.mine HH2.out.bank hsp
    have hbel3:=HH2.out.bel.trans ((HH2.out.bank.lower hsp).mono HH2.out.base)
    have HB3:=hid hb3
    have HM3:=hid hm3
    have HDID:=hid hdid
    have HFR3:=hid hfr3
    have HK1:=hid hk1
    clear hb3 hdid hsp hm3 hfr3 hk1 HDO k0 k1 k2 k3 k4 k5 k6 k7 k8 k9
    obtain ⟨_,k0,k1,k2,k3,k4,k5,k6,k7,k8,k9⟩:=HSTA.out w3 hbel3
    clear HSTA
    by_cases hk0:kk=0
    ·subst hk0
     obtain ⟨V4,hf4⟩:=Fine.done HH2.out.bank HH2.out.fine HDID.out (by have:=H3.out;omega) (by have:=H3.out;omega)
     have HF4:=hid hf4
     clear hf4
     have HBEH:=hid (show Calls Tryz.prog 8 #[.slice la ln lc,.agg #[.int .i64 st.kind,.int .i64 st.a,.int .i64 st.b,.int .i64 st.c,.int .i64 st.d,.string st.v,.string st.tp,.int .i64 st.m,.int .i64 st.t,.int .i64 st.l]] w3 fun e w''=>∃v,e=.returned v∧Memo w'' 0 v (behindL l st)∧Below w3.heap.size w3 w'' from by
      rw [HLN.out]
      exact behind_any 0 _ l st w3 HM3.out (by have:=HH2.out.len;omega) HSOK.out)
     go_wp2_with fail
     refine HBEH.out.mono ?_
     rintro e w4 ⟨lv4,rfl,hm4,hb4⟩
     have HM4:=hid hm4
     clear hm4
     go_wp2_with fail
     go_roundw
     case rel=>exact ⟨k+1,s3,V4,behindL l st,by go_num,hlt,⟨HB3.out.below hb4,HF4.out,HM4.out,HFR3.out,HH2.out.base,hbel3.trans (hb4.mono hbel3.size)⟩⟩
     case measure=>simp [intOf];omega
    ·have he:s3=s:=Fine.refused HDID.out hk0 HK1.out
     subst he
     have hk0':(kk == 0)=false:=beq_eq_false_iff_ne.2 hk0
     go_wp2_with fail
     go_roundw
     case rel=>exact ⟨k+1,s3,V,l,by go_num,hlt,⟨HB3.out,HH2.out.fine,by rw [HLN.out];exact HM3.out,HFR3.out,HH2.out.base,hbel3⟩⟩
     case measure=>simp [intOf];omega
  ·have hkk:k=q:=by omega
   subst hkk
   have HIM:=hid HH2.out.bank.images_go
   rw [HL.out.1] at HIM
   have hcut:cutOf L.n s.rss=some ([],5):=cut_of_even HH2.out.bank.n1 HH2.out.fine.calm.2 HH2.out.bank.so
   have hset:∀i,settleL (cutOf L.n s.rss) (s.rss i)=s.rss i:=fun i=>by rw [hcut,settleL_five]
   have HSET:=hid hset
   have HREO:=hid (fun w1 hb1 g c hrow=>HH2.out.bank.reopen_go (w1:=w1) ⟨_,hcut⟩ hb1 g c hrow)
   rw [HL.out.1,HL.out.2] at HREO
   obtain ⟨him1,him2⟩:=images_texts HH2.out.bank
   rw [HL.out.1] at him1 him2
   have hst:=strs_map (imagesOf L s)
   obtain ⟨imgs,himg⟩:∃imgs,imgs=(imagesOf L s).map fun r=>(⟨r.toArray⟩:ByteArray):=⟨_,rfl⟩
   rw [←himg] at him1 him2 hst
   have HIMG:=hid (show imgs.length=n∧(∀i,i<n→(imgs[i]!).size≤3000)∧strs (imagesOf L s)=imgs.map .string from ⟨him1,fun i hi=>(him2 i hi).2,hst⟩)
   clear hcut hset him1 him2 hst himg
   go_wp2_with fail
   refine HIM.out.mono ?_
   rintro e w31 ⟨g,rfl,hown,hb31⟩
   have HOWN:=hid hown
   have HGR:=hid (owns_rd hown)
   clear hown HIM
   go_wp2_with fail
   refine (HREO.out w31 hb31 g n HGR.out).mono ?_
   rintro e w4 ⟨L4,s4,rfl,hb4,hc4,hn4,hk4,hbs4,hup4,hal4,hbw4⟩
   have hvb:=vals_back (L:=L) (s':=s) (V:=V) hb4 hc4 (by rw [hn4,HL.out.1]) (by rw [hk4,HL.out.2]) (by rw [show (fun i=>settleL (cutOf L.n s.rss) (s.rss i))=s.rss from funext HSET.out];exact HH2.out.fine.vals) (by rw [HL.out.1];exact hal4)
   have HHAS:=hid (has_any hb4 hc4 (by rw [hn4];exact hup4) hvb.1 0 (.slice la l.length lc) l ((HH2.out.memo.below hb31).below hbw4) (by have:=HH2.out.len;omega))
   have HFIT:=hid (show FitAll V (s4.rss 0).length l from by rw [hvb.2,HSET.out];exact HH2.out.fine.fit)
   clear hb4 hc4 hn4 hk4 hbs4 hup4 hal4 hvb HREO
   go_wp2_with fail
   refine HHAS.out.mono ?_
   rintro e w5 ⟨bb,rfl,hbb,hb5⟩
   obtain rfl:=hbb.2 HFIT.out
   clear hbb HHAS HFIT
   have hbr5:Below wr.heap.size wr w5:=hb31.trans ((hbw4.mono hb31.size).trans (hb5.mono (Nat.le_trans hb31.size hbw4.size)))
   have hown5:w5.ownsRow wr.heap.size 9 1 (.slice (some ⟨g,0,none⟩) n n) n (imgs.map .string):=by
    rw [←HIMG.out.2.2]
    exact owns_below (owns_below HOWN.out hbw4 (Nat.le_refl _)) hb5 (Nat.le_refl _)
   have HP1:=hid (pick_any pl n w5 HPL.out.1 HPL.out.2 (by omega) (by omega))
   have hpil:pickN pl n<n:=pickN_lt _ _ (by omega)
   go_wp2_with fail
   refine HP1.out.mono ?_
   rintro e w6 ⟨rfl,hw6⟩
   obtain rfl:=hw6.symm
   clear HP1
   obtain ⟨pi,hpi⟩:∃pi,pi=pickN pl n:=⟨_,rfl⟩
   rw [←hpi] at hpil ⊢
   clear hpi
   have hpil':(pi:Int)<(n:Int):=by omega
   obtain ⟨S,hS⟩:∃S,S=imgs[pi]! := ⟨_,rfl⟩
   have hSz:S.size≤3000:=by rw [hS];exact HIMG.out.2.1 pi hpil
   have hcS:w5.cell? ⟨g,pi,none⟩=some (.string S):=by
    have:=hown5.cellAt pi (by omega)
    rw [this,List.getElem?_map,List.getElem?_eq_getElem (by rw [HIMG.out.1];exact hpil),hS,getElem!_pos imgs pi (by rw [HIMG.out.1];exact hpil)]
    rfl
   have hg5:=(hown5.lt g rfl)
   have HOWN5:=hid hown5
   have HP2:=hid (fun w'=>pick_big pl 1099511627776 w' HPL.out.1 HPL.out.2 (by decide) (by decide))
   have hat:pickN pl 1099511627776<1099511627776:=pickN_lt _ _ (by decide)
   obtain ⟨at',hat'⟩:∃at',at'=pickN pl 1099511627776:=⟨_,rfl⟩
   rw [←hat'] at hat HP2
   have HP2:=hid (show ∀w',Calls Tryz.prog 5 #[.int .i64 pl,.int .i64 1099511627776] w' (fun e w''=>e=.returned (.int .i64 at')∧w''=w') from HP2.out)
   clear hat'
   obtain ⟨pq,hpq⟩:∃pq,pq=at' / n:=⟨_,rfl⟩
   have hpql:pq<1099511627776:=by rw [hpq];exact Nat.lt_of_le_of_lt (Nat.div_le_self _ _) hat
   have hdiv:(at':Int).tdiv (n:Int)=(pq:Int):=by rw [hpq,Int.tdiv_eq_ediv_of_nonneg (by omega),Int.natCast_ediv]
   have hwq:IntKind.i64.wrap (pq:Int)=(pq:Int):=by rw [IntKind.wrap_i64];omega
   have hn0:¬(n:Int)=0:=by omega
   have HTU:=hid (fun w'=>turned_any S pq how by' w' hSz (by omega) (by omega) HHOW.out.1 HHOW.out.2 HBY.out.1 HBY.out.2)
   have hq2:((pq:Nat):Int)=(at':Int).tdiv (n:Int):=hdiv.symm
   have hnm1:¬(n:Int)=-1:=by omega
   clear hpq hown5 hS hq2
   go_wp2_with fail
   have HFX:∀a:Act,(∀x∈[((1:Nat),Value.int .u64 key),(2,.slice sa k sc),(3,.int .i64 pl),(4,.int .i64 how),(5,.int .i64 by'),(13,.int .i64 n),(19,.slice (some ⟨g,0,none⟩) n n),(22,.bool true),(23,.int .i64 pi)],a.tmps.getD x.1 undef=x.2)→a.tmps[1]?.getD undef=.int .u64 key∧a.tmps[2]?.getD undef=.slice sa k sc∧a.tmps[3]?.getD undef=.int .i64 pl∧a.tmps[4]?.getD undef=.int .i64 how∧a.tmps[5]?.getD undef=.int .i64 by'∧a.tmps[13]?.getD undef=.int .i64 n∧a.tmps[19]?.getD undef=.slice (some ⟨g,0,none⟩) n n∧a.tmps[22]?.getD undef=.bool true∧a.tmps[23]?.getD undef=.int .i64 pi:=by
    intro a h
    simpa using h
   have HCELL:∀w':World,Below w5.heap.size { w5 with drawn:=w5.drawn+1 } w'→w'.cell? ⟨g,pi,none⟩=some (.string S):=fun w' hb=>(hb.cell (by exact hg5.2)).trans hcS
   refine wp_region_store (by kernel_rfl) (fun i=>i+88) (bentR g n at' pi pq how by' pl S) [(1,.int .u64 key),(2,.slice sa k sc),(3,.int .i64 pl),(4,.int .i64 how),(5,.int .i64 by'),(13,.int .i64 n),(19,.slice (some ⟨g,0,none⟩) n n),(22,.bool true),(23,.int .i64 pi)] 110 14 [1,2,3,4,5,13,19,22,23] (by kernel_rfl) (by kernel_rfl) rfl rfl rfl ?_ (bentR_keeps g n at' pi pq how by' pl S) ?_ ?_
   ·simp
   ·refine ⟨?_,?_,?_,?_,?_,?_,?_,?_,?_,?_,?_,?_,?_,?_,trivial⟩
    ·intro a w' hb hf hd
     obtain ⟨f1,f2,f3,f4,f5,f13,f19,f22,f23⟩:=HFX a hf
     have cS:=HCELL w' hb
     simp [bentR] at hd
     exact .inl ⟨.slice (some ⟨g,0,none⟩) n n,w',by go_simp,Below.refl _ _,rfl⟩
    ·intro a w' hb hf hd
     obtain ⟨f1,f2,f3,f4,f5,f13,f19,f22,f23⟩:=HFX a hf
     have cS:=HCELL w' hb
     simp [bentR] at hd
     exact .inl ⟨.int .i64 pi,w',by go_simp,Below.refl _ _,rfl⟩
    ·intro a w' hb hf hd
     obtain ⟨f1,f2,f3,f4,f5,f13,f19,f22,f23⟩:=HFX a hf
     have cS:=HCELL w' hb
     simp [bentR] at hd
     exact .inl ⟨.slice (some ⟨g,0,none⟩) n n,w',by go_simp,Below.refl _ _,rfl⟩
    ·intro a w' hb hf hd
     obtain ⟨f1,f2,f3,f4,f5,f13,f19,f22,f23⟩:=HFX a hf
     have cS:=HCELL w' hb
     simp [bentR] at hd
     exact .inl ⟨.int .i64 pi,w',by go_simp,Below.refl _ _,rfl⟩
    ·intro a w' hb hf hd
     obtain ⟨f1,f2,f3,f4,f5,f13,f19,f22,f23⟩:=HFX a hf
     have cS:=HCELL w' hb
     simp [bentR] at hd
     exact .inl ⟨.pointer (some ⟨g,pi,none⟩),w',by go_simp,Below.refl _ _,rfl⟩
    ·intro a w' hb hf hd
     obtain ⟨f1,f2,f3,f4,f5,f13,f19,f22,f23⟩:=HFX a hf
     have cS:=HCELL w' hb
     simp [bentR] at hd
     exact .inl ⟨.string S,w',by go_simp,Below.refl _ _,rfl⟩
    ·intro a w' hb hf hd
     obtain ⟨f1,f2,f3,f4,f5,f13,f19,f22,f23⟩:=HFX a hf
     have cS:=HCELL w' hb
     simp [bentR] at hd
     exact .inl ⟨.int .i64 pl,w',by go_simp,Below.refl _ _,rfl⟩
    ·intro a w' hb hf hd
     obtain ⟨f1,f2,f3,f4,f5,f13,f19,f22,f23⟩:=HFX a hf
     have cS:=HCELL w' hb
     simp [bentR] at hd
     refine .inr ⟨5,#[.int .i64 pl,.int .i64 1099511627776],by go_simp,(HP2.out w').mono ?_⟩
     rintro e w'' ⟨rfl,rfl⟩
     exact ⟨_,rfl,Below.refl _ _,rfl⟩
    ·intro a w' hb hf hd
     obtain ⟨f1,f2,f3,f4,f5,f13,f19,f22,f23⟩:=HFX a hf
     have cS:=HCELL w' hb
     simp [bentR] at hd
     exact .inl ⟨.int .i64 n,w',by go_simp,Below.refl _ _,rfl⟩
    ·intro a w' hb hf hd
     obtain ⟨f1,f2,f3,f4,f5,f13,f19,f22,f23⟩:=HFX a hf
     have cS:=HCELL w' hb
     simp [bentR] at hd
     exact .inl ⟨.int .i64 pq,w',by go_simp;omega,Below.refl _ _,rfl⟩
    ·intro a w' hb hf hd
     obtain ⟨f1,f2,f3,f4,f5,f13,f19,f22,f23⟩:=HFX a hf
     have cS:=HCELL w' hb
     simp [bentR] at hd
     exact .inl ⟨.int .i64 how,w',by go_simp,Below.refl _ _,rfl⟩
    ·intro a w' hb hf hd
     obtain ⟨f1,f2,f3,f4,f5,f13,f19,f22,f23⟩:=HFX a hf
     have cS:=HCELL w' hb
     simp [bentR] at hd
     exact .inl ⟨.int .i64 by',w',by go_simp,Below.refl _ _,rfl⟩
    ·intro a w' hb hf hd
     obtain ⟨f1,f2,f3,f4,f5,f13,f19,f22,f23⟩:=HFX a hf
     have cS:=HCELL w' hb
     simp [bentR] at hd
     refine .inr ⟨12,#[.string S,.int .i64 pq,.int .i64 how,.int .i64 by'],by go_simp,(HTU.out w').mono ?_⟩
     rintro e w'' ⟨t,rfl,ht,hb2⟩
     exact ⟨_,rfl,hb2,t,rfl,ht⟩
    ·intro a w' hb hf hd
     obtain ⟨f1,f2,f3,f4,f5,f13,f19,f22,f23⟩:=HFX a hf
     have cS:=HCELL w' hb
     simp [bentR] at hd
     exact .inl ⟨.pointer (some ⟨g,pi,none⟩),w',by go_simp,Below.refl _ _,rfl⟩
   ·intro a w' oo hoo hdf hsz hb hf hr
    obtain ⟨f1,f2,f3,f4,f5,f13,f19,f22,f23⟩:=HFX a hf
    obtain ⟨t,ht1,ht2⟩:=hr 12 (by decide)
    have hp13:=hr 13 (by decide)
    simp [bentR] at ht1 hp13
    cases hoo
    have hbw:Below wr.heap.size wr w':=hbr5.trans ((Below.drew (Below.refl _ _)).trans (hb.mono hbr5.size))
    have how':w'.ownsRow wr.heap.size 9 1 (.slice (some ⟨g,0,none⟩) n n) n (imgs.map .string):=owns_below (HOWN5.out.drew) hb (Nat.le_refl _)
    have hcS':=HCELL w' hb
    have hfz:=how'.frozenAt pi
    have hown2:=owns_string_set how' pi t
    have HRD:=hid (owns_rd hown2)
    have hbx:Below w.heap.size w (w'.setCell ⟨g,pi,none⟩ (.string t)):=(HH2.out.bel.trans (hbw.mono HH2.out.bel.size)).setCell (by have:=HH2.out.bel.size;show w.heap.size≤g;omega) _
    have HAN:=hid (anything_any (imgs.set pi t) (some ⟨g,0,none⟩) n n key ss sa k sc (w'.setCell ⟨g,pi,none⟩ (.string t)) (by rw [List.length_set,HIMG.out.1]) (by unfold maxLen;omega) HRD.out (fun i hi=>by
     have hil:i<(imgs.set pi t).length:=by rw [List.length_set,HIMG.out.1];exact hi
     rw [getElem!_pos _ i hil,List.getElem_set]
     split
     ·omega
     ·have:=HIMG.out.2.1 i hi
      rw [getElem!_pos imgs i (by rw [HIMG.out.1];exact hi)] at this
      omega) HTE.out.2.2 HQ.out HQL.out (HSR.out.below hbx (Nat.le_refl _)) HOK.out (HTE.out.1.keeps hbx (Nat.le_refl _)) (HTE.out.2.1.keeps hbx (Nat.le_refl _)))
    refine wp_store_one 9 (.tmp 101) (.tmp 100) rfl g pi (.string t) (by simp [Act.eval];exact hp13) (by simp [Act.eval];exact ht1) rfl rfl (by kernel_rfl) (.string S) hcS' hfz ?_
    have e1:a.tmps[1]'(by rw [hsz];decide)=.int .u64 key:=by simpa [hsz] using f1
    have e2:a.tmps[2]'(by rw [hsz];decide)=.slice sa k sc:=by simpa [hsz] using f2
    have e19:a.tmps[19]'(by rw [hsz];decide)=.slice (some ⟨g,0,none⟩) n n:=by simpa [hsz] using f19
    have e22:a.tmps[22]'(by rw [hsz];decide)=.bool true:=by simpa [hsz] using f22
    go_wp2_with fail
    refine HAN.out.mono ?_
    rintro e w8 ⟨rfl,hb8⟩
    go_wp2_with fail
    refine bodyPost_ret (v:=.bool true) ?_ rfl ⟨rfl,hbx.trans (hb8.mono hbx.size)⟩
    simp [results,Tryz.results3,go_sem,hsz]
end Go.Proofs.YtcegdgmbponapabGreatDoor