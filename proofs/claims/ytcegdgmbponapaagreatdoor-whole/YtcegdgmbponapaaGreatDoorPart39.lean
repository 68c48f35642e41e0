import Derived.Test.YtcegdgmbponapaaGreatDoorPart38
namespace Go.Proofs.YtcegdgmbponapaaGreatDoor
open Go.RowKit
theorem filter_one {α β:Type} [DecidableEq β] (f:α→β) (a:β):∀l:List α,(l.map f).Nodup→a∈l.map f→(l.filter (fun x=>!decide (f x=a))).length+1=l.length
 | [],_,h=>by simp at h
 | x :: l,hn,h=>by
  rw [List.map_cons,List.nodup_cons] at hn
  by_cases e:f x=a
  ·have hno:∀y∈l,f y≠a:=fun y hy e'=>hn.1 (by rw [e,←e'];exact List.mem_map_of_mem hy)
   rw [List.filter_cons_of_neg (by simp [e]),List.filter_eq_self.2 (fun y hy=>by simp [hno y hy])]
   rfl
  ·rw [List.filter_cons_of_pos (by simp [e])]
   have h':a∈l.map f:=by
    rcases List.mem_cons.1 h with h | h
    ·exact absurd h.symm e
    ·exact h
   have:=filter_one f a l hn.2 h'
   simp only [List.length_cons]
   omega
theorem Sorted.nodup {rs:List RecV} (h:Sorted rs):(rs.map RecV.name).Nodup:=by
 rw [List.nodup_iff_pairwise_ne,List.pairwise_map]
 exact h.pairwise.imp fun {a b} hab e=>by
  rw [e,cmpB_zero.2 rfl] at hab
  omega
theorem remR_one {rs:List RecV} (h:Sorted rs) {nm:ByteArray} (hy:hasName rs nm=true):(remR rs nm).length+1=rs.length :=
 filter_one RecV.name nm rs h.nodup (by obtain ⟨h1,h2⟩:=recOf_mem hy;rw [←h2];exact List.mem_map_of_mem h1)
section
variable {V:ByteArray→Option ByteArray} {l:List Mem} {nm:ByteArray} {cnt:Nat}
theorem FitAll.at (h:FitAll V cnt l) (a:Int):Fit V l (nameB a):=h.1 _ (pickN_lt _ _ (by decide))
theorem Fit.fresh (h:Fit V l nm) (hv:V nm=none):∀p∈l,p.1≠nm:=fun p hp e=>by
 have:=h.1 p hp e
 rw [hv] at this
 cases this
theorem FitAll.put (h:FitAll V cnt l) (hf:Fit V l nm) (hv:V nm=none) (v:ByteArray):FitAll (upd V nm (some v)) (cnt+1) (l++[(nm,v)]):=by
 refine ⟨fun i hi=>?_,by rw [List.length_append,h.2];rfl⟩
 by_cases e:nameN i=nm
 ·rw [e]
  refine ⟨fun p hp hpe=>?_,.inl ⟨(nm,v),List.mem_append_right _ (List.mem_singleton.2 rfl),rfl⟩⟩
  rcases List.mem_append.1 hp with hp | hp
  ·exact absurd hpe (hf.fresh hv p hp)
  ·rw [List.mem_singleton.1 hp]
   exact upd_self nm _
 ·have:=h.1 i hi
  refine ⟨fun p hp hpe=>?_,?_⟩
  ·rw [upd_ne _ e]
   rcases List.mem_append.1 hp with hp | hp
   ·exact this.1 p hp hpe
   ·rw [List.mem_singleton.1 hp] at hpe
    exact absurd hpe.symm e
  ·rw [upd_ne _ e]
   exact this.2.imp (fun ⟨p,hp,hpe⟩=>⟨p,List.mem_append_left _ hp,hpe⟩) id
theorem nodup_put (hn:(l.map Prod.fst).Nodup) (hf:∀p∈l,p.1≠nm) (v:ByteArray):((l++[(nm,v)]).map Prod.fst).Nodup:=by
 rw [List.map_append,List.nodup_append]
 refine ⟨hn,by simp,fun a ha b hb e=>?_⟩
 obtain ⟨p,hp,rfl⟩:=List.mem_map.1 ha
 have:b=nm:=by simpa using hb
 exact hf p hp (e.trans this)
theorem nodup_without (hn:(l.map Prod.fst).Nodup):((withoutL l nm).map Prod.fst).Nodup:=hn.sublist (List.filter_sublist.map _)
theorem FitAll.del (h:FitAll V (cnt+1) l) (hf:Fit V l nm) (hn:(l.map Prod.fst).Nodup) {v:ByteArray} (hv:V nm=some v):FitAll (upd V nm none) cnt (withoutL l nm):=by
 have hmem:nm∈l.map Prod.fst:=by
  rcases hf.2 with ⟨p,hp,e⟩|h
  ·rw [←e];exact List.mem_map_of_mem hp
  ·rw [hv] at h;cases h
 refine ⟨fun i hi=>?_,?_⟩
 ·by_cases e:nameN i=nm
  ·rw [e]
   refine ⟨fun p hp hpe=>?_,.inr (upd_self nm _)⟩
   have:=(List.mem_filter.1 hp).2
   simp [hpe] at this
  ·have:=h.1 i hi
   rw [show Fit (upd V nm none) (withoutL l nm) (nameN i)↔((∀p∈withoutL l nm,p.1=nameN i→V (nameN i)=some p.2)∧((∃p∈withoutL l nm,p.1=nameN i)∨V (nameN i)=none)) by unfold Fit;rw [upd_ne _ e]]
   refine ⟨fun p hp hpe=>this.1 p (List.mem_filter.1 hp).1 hpe,this.2.imp (fun ⟨p,hp,hpe⟩=>⟨p,List.mem_filter.2 ⟨hp,?_⟩,hpe⟩) id⟩
   rw [hpe]
   simp [e]
 ·have h1:(withoutL l nm).length+1=l.length:=filter_one Prod.fst nm l hn hmem
  have h2:=h.2
  omega
end
theorem settleL_five (g:List UInt8) (rs:List RecV):settleL (some (g,5)) rs=rs:=by unfold settleL;exact if_pos rfl
theorem settleL_code {c:Nat} (hc:c≠5) (nm:ByteArray) (rs:List RecV):settleL (some (nm.data.toList,c)) rs=settled c nm rs:=by
 unfold settleL
 simp only [if_neg hc]
structure Fine (L:Seat) (s:Sta) (V:ByteArray→Option ByteArray) (l:List Mem):Prop where
 calm:Calm L s
 up:∀i,i<L.n→s.dn i=false
 vals:Vals L.key L.n s.rss s.X V
 fit:FitAll V (s.rss 0).length l
 nd:(l.map Prod.fst).Nodup
theorem xor_tape (a b:List UInt8) (h:b.length=a.length):∃x:List UInt8,x.length=a.length∧∀k,x.getD k 0=a.getD k 0^^^b.getD k 0:=by
 refine ⟨(List.range a.length).map fun i=>a.getD i 0^^^b.getD i 0,by simp,fun k=>?_⟩
 by_cases hk:k<a.length
 ·simp [hk]
 ·simp [hk,List.getElem?_eq_none (show b.length≤k by omega)]
section
variable {w w':World} {L:Seat} {s s':Sta} {V:ByteArray→Option ByteArray} {l:List Mem} {st:StepV}
theorem ValAt.refreshed {key n:Nat} {o:Ob} {xs ys P:Nat→List UInt8} {v tape:ByteArray} (hp:IsPlan o.mode o.t o.l n) (hm:o.mode=0) (h:ValAt key n o xs v) (ht:tape.size=Cof.tsize o.mode o.t*Cof.ngroups o.mode o.t o.l o.size)
  (hP:∀i,i<n→Cof.Good key (Cof.head o.mode o.t o.l n i o.epoch o.size o.name.data.toList) (Cof.ngroups o.mode o.t o.l o.size) (xs i) (P i))
  (hy:∀i,i<n→ys i=shardOf key ⟨o.name,0,o.t,o.l,o.size,o.epoch+1⟩ n i (Cof.sumRow (P i) ((Cof.split (List.replicate o.size 0) 0 o.t o.l n tape.data.toList).getD i []))):ValAt key n ⟨o.name,o.mode,o.t,o.l,o.size,o.epoch+1⟩ ys v:=by
 obtain ⟨hz,t0,ht0,hx⟩:=h
 have hbl:tape.data.toList.length=t0.length:=by rw [ba_len,ht,hz,ht0]
 obtain ⟨x,hx1,hx2⟩:=xor_tape t0 tape.data.toList hbl
 refine ⟨hz,x,by rw [hx1];exact ht0,fun i hi=>?_⟩
 have hg:Cof.Good key (Cof.head o.mode o.t o.l n i o.epoch o.size o.name.data.toList) (Cof.ngroups o.mode o.t o.l o.size) (xs i) _:=ValAt.good hp hi (by rw [ht0];simp) (by rw [hz];simp) (hx i hi)
 rw [hy i hi,good_unique (hP i hi) hg,hm]
 have:=split_sum o.mode o.t o.l n hp v.data.toList t0 tape.data.toList x i hi (by rw [ht0];simp) hbl hx1 hx2
 rw [ba_len,←hz,hm] at this
 rw [this]
theorem Bank.plan0 (h:Bank w L s) {nm:ByteArray} (hy:hasName (s.rss 0) nm=true):IsPlan (recOf (s.rss 0) nm).mode (recOf (s.rss 0) nm).t (recOf (s.rss 0) nm).l L.n:=(h.ok 0 h.n1 _ (recOf_mem hy).1).plan
theorem Bank.obAll (h:Bank w L s) (hc:Calm L s) {nm:ByteArray} (hy:hasName (s.rss 0) nm=true) (i:Nat) (hi:i<L.n):(recOf (s.rss i) nm).ob=(recOf (s.rss 0) nm).ob:=((h.held hc nm hy (recOf (s.rss 0) nm).ob rfl).2.1 i hi).2.1
theorem vals_ref (h:Bank w L s) (hf:Fine L s V l) {nm:ByteArray} (hy:hasName (s.rss 0) nm=true) {o:Ob} (ho:o=(recOf (s.rss 0) nm).ob) (hm:o.mode=0) {P:Nat→List UInt8} {ys:List RecV} {tape:ByteArray} (ht:tape.size=Cof.tsize o.mode o.t*Cof.ngroups o.mode o.t o.l o.size)
  (hP:∀i,i<L.n→Cof.Good L.key (Cof.head o.mode o.t o.l L.n i o.epoch o.size nm.data.toList) (Cof.ngroups o.mode o.t o.l o.size) ((recOf (s.rss i) nm).x s.X) (P i))
  (hN:News L s s' ⟨nm,0,o.t,o.l,o.size,o.epoch+1⟩ (fun i=>shardOf L.key ⟨nm,0,o.t,o.l,o.size,o.epoch+1⟩ L.n i (Cof.sumRow (P i) ((Cof.split (List.replicate o.size 0) 0 o.t o.l L.n tape.data.toList).getD i []))) ys) :
  Vals L.key L.n (refL L.n s.rss nm ys (2*L.n)) s'.X V:=by
 obtain ⟨v,hv,hval⟩:=hf.vals.yes nm hy
 have hon:o.name=nm:=by rw [ho];exact (recOf_mem hy).2
 have hp:IsPlan o.mode o.t o.l L.n:=by rw [ho];exact h.plan0 hy
 rw [←ho] at hval
 subst hon
 exact hf.vals.ref h.n1 h.so (h.hasAll hf.calm) hy (fun i hi=>(h.obAll hf.calm hy i hi).trans ho.symm) rfl hN.old hv (ValAt.refreshed hp hm hval ht hP hN.new)
theorem vals_put (h:Bank w L s) (hf:Fine L s V l) {nm:ByteArray} {mode t l':Nat} {v tape:ByteArray} (hno:hasName (s.rss 0) nm=false) {ys:List RecV} (ht:tape.size=Cof.tsize mode t*Cof.ngroups mode t l' v.size)
  (hN:News L s s' ⟨nm,mode,t,l',v.size,0⟩ (fun i=>shardOf L.key ⟨nm,mode,t,l',v.size,0⟩ L.n i ((Cof.split v.data.toList mode t l' L.n tape.data.toList).getD i [])) ys) :
  Vals L.key L.n (putL s.rss ys L.n) s'.X (upd V nm (some v)) :=
 hf.vals.put h.n1 h.so (h.hasAll hf.calm) (fun i hi=>by rw [hf.calm.2.hasName h.n1 h.so nm i hi];exact hno) rfl (fun i hi=>(hN.ob i hi).1) hN.old ⟨rfl,tape.data.toList,by rw [ba_len];exact ht,hN.new⟩
theorem len_ref (rss:Nat→List RecV) (n k i:Nat) (nm:ByteArray) (ys:List RecV):(refL n rss nm ys k i).length=(rss i).length:=by unfold refL;simp
theorem Fine.done (h:Bank w L s) (hf:Fine L s V l) (hd:Did L s st 0 s') (h3:pickN st.kind 7≠3) (h4:pickN st.kind 7≠4):∃V',Fine L s' V' (behindL l st):=by
 have hn1:=h.n1
 have idle:pickN st.kind 7≠0→pickN st.kind 7≠1→behindL l st=l:=fun h0 h1=>by unfold behindL;rw [if_neg h0,if_neg h1]
 rcases hd with ⟨_,h0,_⟩|⟨_,hd | hd | hd⟩|⟨hk,_⟩|⟨hk,_,rfl⟩|⟨hk,_,⟨_,rfl⟩|⟨ht,_⟩⟩
 ·exact absurd rfl h0
 ·obtain ⟨hk,hno,hfew,ys,j,tape,htp,hN,hr,he⟩:=hd
  rcases he with ⟨rfl,_,_,hc⟩|⟨_,e,_⟩
  ·have hv:=vals_put h hf hno htp hN
   have hVn:=hf.vals.no _ hno
   have hfit:=hf.fit.at st.a
   have e0:behindL l st=l++[(nameB st.a,st.v.extract 0 60)]:=by unfold behindL;rw [if_pos hk]
   rw [e0]
   refine ⟨upd V (nameB st.a) (some (st.v.extract 0 60)),hc,fun i hi=>(hN.dn i hi).trans (hf.up i hi),?_,?_,nodup_put hf.nd (hfit.fresh hVn) _⟩
   ·rw [show s'.rss=putL s.rss ys L.n from funext hr]
    exact hv
   ·rw [hr 0,show putL s.rss ys L.n 0=insR (s.rss 0) (ys[0]!) by unfold putL;rw [if_pos (by omega)],insR_length]
    exact hf.fit.put hfit hVn _
  ·cases e
 ·obtain ⟨hk,hy,j,hdn,hX,hr,he⟩:=hd
  rcases he with ⟨rfl,_,_,hc⟩|⟨_,e,_⟩
  ·obtain ⟨v,hv,_⟩:=hf.vals.yes _ hy
   have hfit:=hf.fit.at st.a
   have e0:behindL l st=withoutL l (nameB st.a):=by unfold behindL;rw [if_neg (by omega),if_pos hk]
   rw [e0]
   refine ⟨upd V (nameB st.a) none,hc,fun i hi=>by rw [hdn];exact hf.up i hi,?_,?_,nodup_without hf.nd⟩
   ·rw [show s'.rss=delL s.rss (nameB st.a) L.n from funext hr,hX]
    exact hf.vals.del hn1 h.so (h.hasAll hf.calm)
   ·rw [hr 0,show delL s.rss (nameB st.a) L.n 0=remR (s.rss 0) (nameB st.a) by unfold delL;rw [if_pos (by omega)]]
    have h5:=hf.fit
    rw [←remR_one (h.so 0 hn1) hy] at h5
    exact h5.del hfit hf.nd hv
  ·cases e
 ·obtain ⟨hk,hy,o,ho,hm,he1,P,ys,j,tape,htp,hP,hN,hr,he⟩:=hd
  rcases he with ⟨rfl,_,_,hc⟩|⟨_,e,_⟩
  ·rw [idle (by omega) (by omega)]
   refine ⟨V,hc,fun i hi=>(hN.dn i hi).trans (hf.up i hi),?_,?_,hf.nd⟩
   ·rw [show s'.rss=refL L.n s.rss (nameB st.a) ys (2*L.n) from funext hr]
    exact vals_ref h hf hy ho hm htp hP hN
   ·rw [hr 0,len_ref]
    exact hf.fit
  ·cases e
 ·exact absurd hk (fun h=>h.elim h3 h4)
 ·rw [idle (by omega) (by omega)]
  exact ⟨V,⟨hf.calm.1,hf.calm.2⟩,hf.up,hf.vals,hf.fit,hf.nd⟩
 ·rw [idle (by omega) (by omega)]
  exact ⟨V,hf⟩
 ·have:=ht.1
  rw [hf.calm.1] at this
  cases this
theorem Fine.refused {k:Int} (hd:Did L s st k s') (h0:k≠0) (h1:k≠1):s'=s:=by
 rcases hd with ⟨h,_⟩|⟨_,hd | hd | hd⟩|⟨_,hk,_⟩|⟨_,hk,_⟩|⟨_,hk,_⟩
 ·exact h
 ·obtain ⟨_,_,_,ys,j,tape,_,_,_,he⟩:=hd
  rcases he with ⟨_,e,_⟩|⟨_,e,_⟩
  ·exact absurd e h0
  ·exact absurd e h1
 ·obtain ⟨_,_,j,_,_,_,he⟩:=hd
  rcases he with ⟨_,e,_⟩|⟨_,e,_⟩
  ·exact absurd e h0
  ·exact absurd e h1
 ·obtain ⟨_,_,o,_,_,_,P,ys,j,tape,_,_,_,_,he⟩:=hd
  rcases he with ⟨_,e,_⟩|⟨_,e,_⟩
  ·exact absurd e h0
  ·exact absurd e h1
 ·exact absurd hk h0
 ·exact absurd hk h0
 ·exact absurd hk h0
theorem Fine.torn (h:Bank w L s) (hf:Fine L s V l) (hd:Did L s st 1 s'):Torn L s'∧(∀i,i<L.n→s'.dn i=false)∧((behindL l st).map Prod.fst).Nodup ∧
  ∃V',Vals L.key L.n (fun i=>settleL (cutOf L.n s'.rss) (s'.rss i)) s'.X V'∧(FitAll V' (settleL (cutOf L.n s'.rss) (s'.rss 0)).length l∨FitAll V' (settleL (cutOf L.n s'.rss) (s'.rss 0)).length (behindL l st)):=by
 have hn1:=h.n1
 have idle:pickN st.kind 7≠0→pickN st.kind 7≠1→behindL l st=l:=fun h0 h1=>by unfold behindL;rw [if_neg h0,if_neg h1]
 rcases hd with ⟨_,_,h1⟩|⟨_,hd | hd | hd⟩|⟨_,e,_⟩|⟨_,e,_⟩|⟨_,e,_⟩
 ·exact absurd rfl (h1 hf.calm)
 ·obtain ⟨hk,hno,hfew,ys,j,tape,htp,hN,hr,he⟩:=hd
  rcases he with ⟨_,e,_⟩|⟨hj,_,_,ht⟩
  ·cases e
  ·have hVn:=hf.vals.no _ hno
   have hfit:=hf.fit.at st.a
   have e0:behindL l st=l++[(nameB st.a,st.v.extract 0 60)]:=by unfold behindL;rw [if_pos hk]
   have hno':∀i,i<L.n→hasName (s.rss i) (nameB st.a)=false:=fun i hi=>by rw [hf.calm.2.hasName hn1 h.so _ i hi];exact hno
   have hyn:∀i,i<L.n→(ys[i]!).name=nameB st.a:=fun i hi=>congrArg Ob.name (hN.ob i hi).1
   have hset:∀i,i<L.n→settleL (cutOf L.n s'.rss) (s'.rss i)=s.rss i:=fun i hi=>by
    rw [show s'.rss=putL s.rss ys j from funext hr,cut_put hn1 hf.calm.2 h.so hno' hyn j hj]
    by_cases h0:j=0
    ·rw [if_pos h0,h0]
     rw [settleL_five]
     unfold putL
     rw [if_neg (by omega)]
    ·rw [if_neg h0]
     rw [settleL_code (by decide)]
     exact settled_put h.so hno' hyn j i hi
   refine ⟨ht,fun i hi=>(hN.dn i hi).trans (hf.up i hi),by rw [e0];exact nodup_put hf.nd (hfit.fresh hVn) _,V,hf.vals.same hn1 (h.hasAll hf.calm) hset hN.old,.inl ?_⟩
   rw [hset 0 hn1]
   exact hf.fit
 ·obtain ⟨hk,hy,j,hdn,hX,hr,he⟩:=hd
  rcases he with ⟨_,e,_⟩|⟨hj,_,_,ht⟩
  ·cases e
  ·obtain ⟨v,hv,_⟩:=hf.vals.yes _ hy
   have hfit:=hf.fit.at st.a
   have e0:behindL l st=withoutL l (nameB st.a):=by unfold behindL;rw [if_neg (by omega),if_pos hk]
   refine ⟨ht,fun i hi=>by rw [hdn];exact hf.up i hi,by rw [e0];exact nodup_without hf.nd,?_⟩
   rw [hX]
   by_cases h0:j=0
   ·have hset:∀i,i<L.n→settleL (cutOf L.n s'.rss) (s'.rss i)=s.rss i:=fun i hi=>by
     rw [show s'.rss=delL s.rss (nameB st.a) j from funext hr,cut_del hn1 hf.calm.2 h.so hy j hj,if_pos h0,h0]
     rw [settleL_five]
     unfold delL
     rw [if_neg (by omega)]
    refine ⟨V,hf.vals.same hn1 (h.hasAll hf.calm) hset (fun _ _ _ _=>rfl),.inl ?_⟩
    rw [hset 0 hn1]
    exact hf.fit
   ·have hset:∀i,i<L.n→settleL (cutOf L.n s'.rss) (s'.rss i)=delL s.rss (nameB st.a) L.n i:=fun i hi=>by
     rw [show s'.rss=delL s.rss (nameB st.a) j from funext hr,cut_del hn1 hf.calm.2 h.so hy j hj,if_neg h0]
     rw [settleL_code (by decide),settled_del]
     unfold delL
     rw [if_pos hi]
    have hvd:=hf.vals.del hn1 h.so (h.hasAll hf.calm) (nm:=nameB st.a)
    have hall:∀x,hasName (delL s.rss (nameB st.a) L.n 0) x=true→∀i,i<L.n→hasName (delL s.rss (nameB st.a) L.n i) x=true:=fun x hx i hi=>by
     rw [(even_del hn1 hf.calm.2 h.so).hasName hn1 (fun i hi=>delL_sorted h.so _ i hi) x i hi]
     exact hx
    refine ⟨_,hvd.same hn1 hall hset (fun _ _ _ _=>rfl),.inr ?_⟩
    rw [hset 0 hn1,e0,show delL s.rss (nameB st.a) L.n 0=remR (s.rss 0) (nameB st.a) by unfold delL;rw [if_pos (by omega)]]
    have h5:=hf.fit
    rw [←remR_one (h.so 0 hn1) hy] at h5
    exact h5.del hfit hf.nd hv
 ·obtain ⟨hk,hy,o,ho,hm,he1,P,ys,j,tape,htp,hP,hN,hr,he⟩:=hd
  rcases he with ⟨_,e,_⟩|⟨hj,_,_,ht⟩
  ·cases e
  ·have e0:=idle (by omega) (by omega)
   have hyes:=h.hasAll hf.calm _ hy
   have hob:∀i,i<L.n→(recOf (s.rss i) (nameB st.a)).ob=o:=fun i hi=>(h.obAll hf.calm hy i hi).trans ho.symm
   have hys:∀i,i<L.n→(ys[i]!).sa≠none:=fun i hi=>(hN.ob i hi).2.2
   have hz:∀i,i<L.n→(recOf (s.rss i) (nameB st.a)).nn=0∧(recOf (s.rss i) (nameB st.a)).nc=0:=fun i hi=>by
    have hm:=(recOf_mem (hyes i hi)).1
    rcases (h.ok i hi _ hm).nx with ⟨_,h2,h3⟩|⟨h1,_⟩
    ·exact ⟨h2,h3⟩
    ·exact absurd (hf.calm.2.bare i hi _ hm) h1
   have hcut:=cut_ref hn1 hf.calm.2 h.so hyes hob hys j hj
   have hall:∀x,hasName (refL L.n s.rss (nameB st.a) ys (2*L.n) 0) x=true→∀i,i<L.n→hasName (refL L.n s.rss (nameB st.a) ys (2*L.n) i) x=true:=fun x hx i hi=>by
    rw [(even_ref hn1 hf.calm.2 h.so hyes hob (by omega)).hasName hn1 (fun i hi=>refL_sorted h.so hyes _ i hi) x i hi]
    exact hx
   refine ⟨ht,fun i hi=>(hN.dn i hi).trans (hf.up i hi),by rw [e0];exact hf.nd,V,?_⟩
   by_cases hjn:j<L.n
   ·have hset:∀i,i<L.n→settleL (cutOf L.n s'.rss) (s'.rss i)=s.rss i:=fun i hi=>by
     rw [show s'.rss=refL L.n s.rss (nameB st.a) ys j from funext hr,hcut]
     by_cases h0:j=0
     ·rw [if_pos h0,h0]
      rw [settleL_five]
      unfold refL
      rw [show refState L.n (fun q=>recOf (s.rss q) (nameB st.a)) ys 0 i=recOf (s.rss i) (nameB st.a) by unfold refState;rw [if_neg (by omega),if_neg (by omega)]]
      exact setR_self (hyes i hi)
     ·rw [if_neg h0]
      rw [settleL_code (by unfold refCode;split<;>decide),settled_ref hf.calm.2 h.so hyes hz hys j i hi,if_pos hjn]
    refine ⟨hf.vals.same hn1 (h.hasAll hf.calm) hset hN.old,.inl ?_⟩
    rw [hset 0 hn1]
    exact hf.fit
   ·have hset:∀i,i<L.n→settleL (cutOf L.n s'.rss) (s'.rss i)=refL L.n s.rss (nameB st.a) ys (2*L.n) i:=fun i hi=>by
     rw [show s'.rss=refL L.n s.rss (nameB st.a) ys j from funext hr,hcut,if_neg (by omega)]
     rw [settleL_code (by unfold refCode;split<;>decide),settled_ref hf.calm.2 h.so hyes hz hys j i hi,if_neg hjn]
    refine ⟨(vals_ref h hf hy ho hm htp hP hN).same hn1 hall hset (fun _ _ _ _=>rfl),.inl ?_⟩
    rw [hset 0 hn1,len_ref]
    exact hf.fit
 ·cases e
 ·cases e
 ·cases e
end
theorem Bank.not_mine {w:World} {L:Seat} {s:Sta} (h:Bank w L s) {b:Nat} {cs:Array Value} {t:TypeId} {fz:Nat × Nat} (hb:w.heap[b]?=some (.cells cs t fz)) (h1:t≠161) (h2:t≠178) (h3:t≠152) (h4:t≠5):¬Mine L s b:=by
 rintro (e | ⟨i,hi,e | e⟩|⟨i,hi,r,hr,e⟩)
 ·rw [e,h.vp.hp] at hb
  cases hb
  exact h1 rfl
 ·rw [e,(h.st i hi).hp] at hb
  cases hb
  exact h2 rfl
 ·exact row_nf (h.st i hi).row hb (Ne.symm h3) e
 ·obtain ⟨_,cs',fz',h'⟩:=(h.ok i hi r hr).at e
  rw [h'] at hb
  cases hb
  exact h4 rfl
theorem Memo.mine {w w':World} {L:Seat} {s:Sta} (h:Bank w L s) {base:Nat} {v:Value} {l:List Mem} (hm:Memo w base v l) (hs:Spared (Mine L s) w w'):Memo w' base v l:=by
 refine hm.spared hs fun b hb=>?_
 rcases hm.2 with ⟨h8,_⟩|⟨g,cap,cur,h8,_,h4,_⟩
 ·rw [h8] at hb;cases hb
 ·rw [h8] at hb
  cases hb
  exact h.not_mine h4 (by decide) (by decide) (by decide) (by decide)
theorem open_bank (n key:Nat) (w:World) (h1:1≤n) (h8:n≤8) (hk:key<18446744073709551616) (hT:Tab w) (hE:ErrType w) :
  Calls Tryz.prog 31 #[.int .i64 n,.int .u64 key] w fun e w'=>∃L s,e=.returned (.pointer (some ⟨L.C,0,none⟩))∧Bank w' L s∧L.base=w.heap.size∧L.n=n∧L.key=key∧(∀i,s.rss i=[])∧(∀i,s.dn i=false)∧s.p=⟨0,false,0,false⟩∧Below w.heap.size w w':=by
 refine (copen_any n key w h1 h8).mono ?_
 rintro e w' ⟨C,w1,ps,v,rfl,hop,rfl,rfl⟩
 obtain ⟨B,bc,hvt,hst,hne,hB,hps⟩:=hop.parts h1
 have hal:=(Below.refl w1.heap.size w1).alloc (Nat.le_refl _) (.cells #[.pointer (some ⟨w.heap.size,0,none⟩)] 100)
 have hs:Spared (fun _=>False) w1 (w1.alloc (.cells #[.pointer (some ⟨w.heap.size,0,none⟩)] 100)):=Spared.ofBelow hal (Nat.le_refl _)
 have hb:Below w.heap.size w (w1.alloc (.cells #[.pointer (some ⟨w.heap.size,0,none⟩)] 100)):=hop.bl.trans (hal.mono hop.bl.size)
 refine ⟨⟨w.heap.size,w1.heap.size,w.heap.size,key,n,B,bc,fun i=>ps[i]!⟩,⟨fun _=>false,fun _=>.slice none 0 0,fun _=>[],⟨0,false,0,false⟩,fun _=>[]⟩,rfl,?_,rfl,rfl,rfl,fun _=>rfl,fun _=>rfl,rfl,hb⟩
 refine ⟨alloc_at w1 _,?_,h1,h8,hk,fun i hi=>(hst i hi).keeps hs (fun h=>h) (fun _ _ h=>h),?_,?_,⟨hT.keeps hb (Nat.le_refl _),hE.keeps hb (Nat.le_refl _),hT.2,hE.2,hb.size⟩,hop.bl.size,Nat.le_refl _,hB,hps,?_,?_,?_⟩
 ·exact Vp.keeps (p:=⟨0,false,0,false⟩) hvt hs (fun h=>h) (fun h=>h)
 ·intro i j hi hj hij
  rcases Nat.lt_or_gt_of_ne hij with h | h
  ·exact hne i j h hj
  ·exact (hne j i h hi).symm
 ·intro i j _ _ _ b hb
  cases hb
 ·intro i _ b hb
  cases hb
 ·intro i _ r hr
  cases hr
 ·intro i j _ _ r hr
  cases hr
theorem fine_open {L:Seat} {s:Sta} (hr:∀i,s.rss i=[]) (hd:∀i,s.dn i=false) (hp:s.p=⟨0,false,0,false⟩):Fine L s (fun _=>none) []:=by
 have hno:∀i nm,hasName (s.rss i) nm=false:=fun i nm=>by rw [hr i];rfl
 refine ⟨⟨by rw [hp],fun i _=>by rw [hr i,hr 0],fun i _ r hr'=>?_,fun i _ r hr'=>?_⟩,fun i _=>hd i,⟨fun nm hy=>?_,fun _ _=>rfl⟩,⟨fun i _=>⟨fun p hp=>(by cases hp),.inr rfl⟩,by rw [hr 0];rfl⟩,List.nodup_nil⟩
 ·rw [hr i] at hr';cases hr'
 ·rw [hr i] at hr';cases hr'
 ·rw [hno 0 nm] at hy;cases hy
theorem vals_back {w:World} {L L':Seat} {s' s'':Sta} {V:ByteArray→Option ByteArray} (hb:Bank w L' s'') (hc:Calm L' s'') (hn:L'.n=L.n) (hk:L'.key=L.key) (hv:Vals L.key L.n (fun i=>settleL (cutOf L.n s'.rss) (s'.rss i)) s'.X V)
  (ha:∀i,i<L.n→Alike s''.X s'.X (s''.rss i) (settleL (cutOf L.n s'.rss) (s'.rss i))):Vals L'.key L'.n s''.rss s''.X V∧(s''.rss 0).length=(settleL (cutOf L.n s'.rss) (s'.rss 0)).length:=by
 have hn1:1≤L.n:=by rw [←hn];exact hb.n1
 rw [hn,hk]
 refine ⟨hv.alike hn1 (fun nm hy i hi=>?_) ha,(ha 0 hn1).len⟩
 rw [←(ha i hi).has nm]
 refine hb.hasAll hc nm ?_ i (by rw [hn];exact hi)
 rw [(ha 0 hn1).has nm]
 exact hy
theorem strs_map (rows:List (List UInt8)):strs rows=(rows.map fun r=>(⟨r.toArray⟩:ByteArray)).map Value.string:=by
 simp [strs,str]
theorem images_texts {w:World} {L:Seat} {s:Sta} (h:Bank w L s):((imagesOf L s).map fun r=>(⟨r.toArray⟩:ByteArray)).length=L.n∧∀i,i<L.n→(((imagesOf L s).map fun r=>(⟨r.toArray⟩:ByteArray))[i]!).data.toList=imageOf L.n i (s.rss i) s.X∧(((imagesOf L s).map fun r=>(⟨r.toArray⟩:ByteArray))[i]!).size≤3000:=by
 refine ⟨by simp [imagesOf],fun i hi=>?_⟩
 have e:(((imagesOf L s).map fun r=>(⟨r.toArray⟩:ByteArray))[i]!).data.toList=imageOf L.n i (s.rss i) s.X:=by
  rw [getElem!_pos _ i (by simp [imagesOf];exact hi)]
  simp [imagesOf]
 refine ⟨e,?_⟩
 rw [←ba_len,e]
 have h1:=imgOf_len (h.ok i hi) i (s.rss i).length (Nat.le_refl _)
 have h2:=(h.st i hi).le
 unfold imageOf
 omega
theorem Bank.reopen_go {w w1:World} {L:Seat} {s:Sta} (h:Bank w L s) (hcut:∃o,cutOf L.n s.rss=some o) (hb1:Below w.heap.size w w1) (g:Nat) (c:Nat) (hrow:Rd w1 (some ⟨g,0,none⟩) (strs (imagesOf L s))) :
  Calls Tryz.prog 35 #[.slice (some ⟨g,0,none⟩) L.n c,.int .u64 L.key] w1 fun e w'=>∃L' s',e=.returned (.tuple #[.pointer (some ⟨L'.C,0,none⟩),.int .i64 0])∧Bank w' L' s'∧Calm L' s'∧L'.n=L.n∧L'.key=L.key∧w1.heap.size≤L'.base∧(∀i,i<L.n→s'.dn i=false)∧(∀i,i<L.n→Alike s'.X s.X (s'.rss i) (settleL (cutOf L.n s.rss) (s.rss i)))∧Below w1.heap.size w1 w':=by
 obtain ⟨hl,hi⟩:=images_texts h
 have h':=h.below hb1
 have hn8:=h.n8
 refine (creopen_any ((imagesOf L s).map fun r=>(⟨r.toArray⟩:ByteArray)) (some ⟨g,0,none⟩) L.n c L.key w1 hl.symm (by unfold maxLen;omega) (by rw [←strs_map];exact hrow) (fun i hin=>Nat.le_trans (hi i hin).2 (by omega)) h.hk h'.G.tb h'.G.et).mono ?_
 rintro e w' (⟨_,hun,_⟩|⟨C,V,B,sp,vs,rss,X,rfl,hbank,hcalm,himg,hb⟩)
 ·exact absurd hun (h.readable hl (fun i hin=>(hi i hin).1) hcut)
 ·exact ⟨_,_,rfl,hbank,hcalm,rfl,rfl,Nat.le_refl _,fun _ _=>rfl,fun i hin=>himg.back h hl (fun i hin=>(hi i hin).1) i hin,hb⟩
theorem Alike.refl (X:Nat→List UInt8) (rs:List RecV):Alike X X rs rs:=rfl
end Go.Proofs.YtcegdgmbponapaaGreatDoor
namespace Go.Proofs.YtcegdgmbponapaaGreatDoor
open Go.RowKit
attribute [local go_sem ↓] Go.wp_at_zero Go.wp_at_succ
structure Held1 (wr w:World) (n key:Nat) (c lv:Value) (L:Seat) (s:Sta) (V:ByteArray→Option ByteArray) (l:List Mem):Prop where
 c:c=.pointer (some ⟨L.C,0,none⟩)
 bank:Bank wr L s
 fine:Fine L s V l
 memo:Memo wr 0 lv l
 n:L.n=n
 key:L.key=key
 base:w.heap.size≤L.base
 bel:Below w.heap.size w wr
theorem Held1.len {wr w:World} {n key:Nat} {c lv:Value} {L:Seat} {s:Sta} {V:ByteArray→Option ByteArray} {l:List Mem} (h:Held1 wr w n key c lv L s V l):l.length≤10:=by
 rw [←h.fine.fit.2]
 exact (h.bank.st 0 h.bank.n1).le
theorem Held1.below {wr wr' w:World} {n key:Nat} {c lv:Value} {L:Seat} {s:Sta} {V:ByteArray→Option ByteArray} {l:List Mem} (h:Held1 wr w n key c lv L s V l) (hb:Below wr.heap.size wr wr'):Held1 wr' w n key c lv L s V l :=
 ⟨h.c,h.bank.below hb,h.fine,h.memo.below hb,h.n,h.key,h.base,h.bel.trans (hb.mono h.bel.size)⟩
theorem step_block {w:World} {T:Nat} {st:StepV} (h:w.heap[T]?=some (.cells st.cells 70)):w.cell? ⟨T,0,none⟩=some (.int .i64 st.kind)∧w.cell? ⟨T,1,none⟩=some (.int .i64 st.a)∧w.cell? ⟨T,2,none⟩=some (.int .i64 st.b)∧w.cell? ⟨T,3,none⟩=some (.int .i64 st.c)∧w.cell? ⟨T,4,none⟩=some (.int .i64 st.d)∧w.cell? ⟨T,5,none⟩=some (.string st.v)∧w.cell? ⟨T,6,none⟩=some (.string st.tp)∧w.cell? ⟨T,7,none⟩=some (.int .i64 st.m)∧w.cell? ⟨T,8,none⟩=some (.int .i64 st.t)∧w.cell? ⟨T,9,none⟩=some (.int .i64 st.l):=by
 refine ⟨?_,?_,?_,?_,?_,?_,?_,?_,?_,?_⟩<;>(rw [cells_at h];rfl)
theorem behindL_len (l:List Mem) (st:StepV):(behindL l st).length≤l.length+1:=by
 unfold behindL
 split
 ·simp
 ·split
  ·exact Nat.le_succ_of_le (List.length_filter_le _ _)
  ·exact Nat.le_succ _
theorem Held1.stepped {w2 w3 w:World} {n key:Nat} {c lv:Value} {L:Seat} {s s3:Sta} {V:ByteArray→Option ByteArray} {l:List Mem} (h:Held1 w2 w n key c lv L s V l) (_:Bank w3 L s3) (hsp:Spared (Mine L s) w2 w3):Memo w3 0 lv l∧Below w.heap.size w w3 :=
 ⟨h.memo.mine h.bank hsp,h.bel.trans ((h.bank.lower hsp).mono h.base)⟩
set_option maxRecDepth 100000 in
set_option maxHeartbeats 4000000 in
theorem whole_any (rn:Int) (key:Nat) (ss:List StepV) (sa:Option Addr) (q sc:Nat) (w:World) (hrn:I64 rn) (hk:key<18446744073709551616)
  (hq:q=ss.length) (hql:q≤maxLen) (hsr:Rd w sa (stepCells ss)) (hok:∀s∈ss,s.Ok) (hT:Tab w) (hE:ErrType w) :
  Calls Tryz.prog 8 #[.int .i64 rn,.int .u64 key,.slice sa q sc] w fun e w'=>e=.returned (.bool true)∧Below w.heap.size w w':=by
 have HPI:=hid (fun w'=>pick_any rn 8 w' hrn.1 hrn.2 (by decide) (by decide))
 have hn8:pickN rn 8<8:=pickN_lt _ _ (by decide)
 have HQ:=hid hq
 have HSR:=hid hsr
 have HOK:=hid hok
 unfold maxLen at hql
 obtain ⟨n,hn⟩:∃n,n=1+pickN rn 8:=⟨_,rfl⟩
 have HOP:=hid (open_bank n key w (by omega) (by omega) hk hT hE)
 have hnI:(1:Int)+(pickN rn 8:Nat)=(n:Nat):=by omega
 have hn1:1≤n:=by omega
 have hn88:n≤8:=by omega
 generalize pickN rn 8=pn at *
 clear hq hsr hok hT hE hn
 go_enter Tryz.func8,Tryz.ntmps8
 go_wp2_with (first | (go_at_call 12;refine (HPI.out _).mono ?_;rintro e w ⟨rfl,rfl⟩)|fail)
 refine HOP.out.mono ?_
 rintro e w1 ⟨L,s,rfl,hbank,hLb,hLn,hLk,hrs,hdn,hp,hb1⟩
 have HH:=hid (show ∃V l,Held1 w1 w n key (.pointer (some ⟨L.C,0,none⟩)) (.slice none 0 0) L s V l from ⟨_,_,rfl,hbank,fine_open hrs hdn hp,World.ownsRow_nil _ _ _ _,hLn,hLk,Nat.le_of_eq hLb.symm,hb1⟩)
 clear hbank hLb hLn hLk hrs hdn hp
 go_wp2_with fail
 go_loopw [8,9,10] (fun c lv u wr=>∃(k:Nat) (L:Seat) (s:Sta) (V:ByteArray→Option ByteArray) (l:List Mem),u=.int .i64 k∧k≤q∧Held1 wr w n key c lv L s V l) (fun _ _ u _=>q-(intOf u).toNat)
 case atStart =>
  obtain ⟨V,l,h⟩:=HH.out
  exact ⟨0,L,s,V,l,rfl,Nat.zero_le _,h⟩
 case round =>
  obtain ⟨k,L,s,V,l,rfl,hkq,hh⟩:=hrel
  obtain rfl:=hh.c
  obtain ⟨la,lc,hlv,_,_⟩:=hh.memo.parts
  subst hlv
  have HH2:=hid hh
  have hb:=hh.bel
  clear hh HH
  by_cases hlt:k<q
  ·have hlt':(k:Int)<(q:Int):=by omega
   obtain ⟨b,o,rfl,hblt,_⟩:=HSR.out.pos (by rw [stepCells_length,←HQ.out];omega)
   obtain ⟨st,hste⟩:∃st,st=ss[k]'(by rw [←HQ.out];exact hlt):=⟨_,rfl⟩
   obtain ⟨_,k0,k1,k2,k3,k4,k5,k6,k7,k8,k9⟩:=step_at (HSR.out.below hb (Nat.le_refl _)) k (by rw [←HQ.out];exact hlt) st hste
   have hsok:st.Ok:=by rw [hste];exact HOK.out _ (List.getElem_mem _)
   have HSOK:=hid hsok
   have HPK:=hid (fun w'=>pick_any st.kind 7 w' hsok.kind.1 hsok.kind.2 (by decide) (by decide))
   clear hste hsok
   obtain ⟨ln,hln⟩:∃ln,ln=l.length:=⟨_,rfl⟩
   rw [←hln]
   have HLN:=hid hln
   clear hln
   have hal:=(Below.refl wr.heap.size wr).alloc (Nat.le_refl _) (.cells #[.int .i64 st.kind,.int .i64 st.a,.int .i64 st.b,.int .i64 st.c,.int .i64 st.d,.string st.v,.string st.tp,.int .i64 st.m,.int .i64 st.t,.int .i64 st.l] 70)
   have HTB:=hid (show (wr.alloc (.cells #[.int .i64 st.kind,.int .i64 st.a,.int .i64 st.b,.int .i64 st.c,.int .i64 st.d,.string st.v,.string st.tp,.int .i64 st.m,.int .i64 st.t,.int .i64 st.l] 70)).heap[wr.heap.size]?=some (.cells st.cells 70) from alloc_at wr _)
   have HH3:=hid (HH2.out.below hal)
   go_wp2_with fail
   generalize wr.alloc (.cells #[.int .i64 st.kind,.int .i64 st.a,.int .i64 st.b,.int .i64 st.c,.int .i64 st.d,.string st.v,.string st.tp,.int .i64 st.m,.int .i64 st.t,.int .i64 st.l] 70)=w2 at *
   generalize wr.heap.size=T at *
   refine (HPK.out _).mono ?_
   rintro e w2' ⟨rfl,hw2⟩
   subst hw2
   clear HH2 k0 k1 k2 k3 k4 k5 k6 k7 k8 k9 hal
   by_cases h34:pickN st.kind 7=3∨pickN st.kind 7=4
   ·have hpk:((pickN st.kind 7:Nat):Int)=3∨((pickN st.kind 7:Nat):Int)=4:=by omega
    generalize pickN st.kind 7=pk at *
    rcases hpk with hpk | hpk
    ·rw [hpk]
     go_wp2_with fail
     go_roundw
     case rel=>exact ⟨k+1,L,s,V,l,by go_num,hlt,by rw [HLN.out];exact HH3.out⟩
     case measure=>simp [intOf];omega
    ·rw [hpk]
     go_wp2_with fail
     go_roundw
     case rel=>exact ⟨k+1,L,s,V,l,by go_num,hlt,by rw [HLN.out];exact HH3.out⟩
     case measure=>simp [intOf];omega
   ·have h3:pickN st.kind 7≠3:=fun e=>h34 (.inl e)
    have h4:pickN st.kind 7≠4:=fun e=>h34 (.inr e)
    have H3:=hid h3
    have H4:=hid h4
    have h3':¬((pickN st.kind 7:Nat):Int)=3:=by omega
    have h4':¬((pickN st.kind 7:Nat):Int)=4:=by omega
    have HDO:=hid (do_any HH3.out.bank (.inl HH3.out.fine.calm) st HSOK.out)
    rw [HH3.out.n] at HDO
    unfold StepV.val at HDO
    obtain ⟨t0,t1,t2,t3,t4,t5,t6,t7,t8,t9⟩:=step_block HTB.out
    obtain ⟨pk,hpk⟩:∃pk,pk=pickN st.kind 7:=⟨_,rfl⟩
    rw [←hpk] at h3' h4' ⊢
    have e3:(((pk:Nat):Int) == 3)=false:=beq_eq_false_iff_ne.2 h3'
    have e4:(((pk:Nat):Int) == 4)=false:=beq_eq_false_iff_ne.2 h4'
    clear h34 h3 h4 hpk
    go_wp2_with fail
    refine HDO.out.mono ?_
    rintro e w3 ⟨v,rfl,kk,s3,rfl,hb3,hdid,hsp⟩
    obtain ⟨hm3,hbel3⟩:=HH3.out.stepped hb3 hsp
    have hT3:w3.heap[T]?=some (.cells st.cells 70):=hsp.heap HTB.out (HH3.out.bank.not_mine HTB.out (by decide) (by decide) (by decide) (by decide))
    have HB3:=hid hb3
    have HM3:=hid hm3
    have HT3:=hid hT3
    have HDID:=hid hdid
    clear hb3 hdid hsp hm3 hT3 HDO t0 t1 t2 t3 t4 t5 t6 t7 t8 t9
    obtain ⟨t0,t1,t2,t3,t4,t5,t6,t7,t8,t9⟩:=step_block HT3.out
    have HBEH:=hid (show ∀w',Below w3.heap.size w3 w'→Calls Tryz.prog 33 #[.slice la ln lc,.agg #[.int .i64 st.kind,.int .i64 st.a,.int .i64 st.b,.int .i64 st.c,.int .i64 st.d,.string st.v,.string st.tp,.int .i64 st.m,.int .i64 st.t,.int .i64 st.l]] w' fun e w''=>∃v,e=.returned v∧Memo w'' 0 v (behindL l st)∧Below w'.heap.size w' w'' from fun w' hbw=>by
     rw [HLN.out]
     exact behind_any 0 _ l st w' (HM3.out.below hbw) (by have:=HH3.out.len;omega) HSOK.out)
    by_cases hk0:kk=0
    ·subst hk0
     obtain ⟨V4,hf4⟩:=Fine.done HH3.out.bank HH3.out.fine HDID.out H3.out H4.out
     have HF4:=hid hf4
     clear hf4
     go_wp2_with (first | (go_at_call 33;refine (HBEH.out _ (Below.refl _ _)).mono ?_;rintro e w4 ⟨lv4,rfl,hm4,hb4⟩;(have HM4:=hid hm4);clear hm4)|(go_at_call 37;refine (has_any (HB3.out.below hb4) HF4.out.calm HF4.out.up HF4.out.vals 0 lv4 _ HM4.out (by have h1:=HF4.out.fit.2;have h2:=(HB3.out.st 0 HB3.out.n1).le;omega)).mono ?_;rintro e w5 ⟨bb,rfl,hbb,hb5⟩;(obtain rfl:=hbb.2 HF4.out.fit);clear hbb)|fail)
     go_roundw
     case rel=>exact ⟨k+1,L,s3,V4,behindL l st,by go_num,hlt,⟨rfl,(HB3.out.below hb4).below hb5,HF4.out,HM4.out.below hb5,HH3.out.n,HH3.out.key,HH3.out.base,hbel3.trans ((hb4.mono hbel3.size).trans (hb5.mono (by have h1:=hbel3.size;have h2:=hb4.size;omega)))⟩⟩
     case measure=>simp [intOf];omega
    ·by_cases hk1:kk=1
     ·subst hk1
      obtain ⟨ht3,hup3,hnd3,V3,hv3,hfit3⟩:=Fine.torn HH3.out.bank HH3.out.fine HDID.out
      have HTORN:=hid ht3
      have HUP3:=hid hup3
      have HND:=hid hnd3
      have HV3:=hid hv3
      have HFIT3:=hid hfit3
      have hll:=HH3.out.len
      have hlb:(behindL l st).length≤11:=by
       have:=behindL_len l st
       omega
      clear ht3 hup3 hnd3 hv3 hfit3
      have hw:wrap64 (st.d.tmod 2)=st.d.tmod 2:=by have h1:=Int.tmod_lt_of_pos st.d (show (0:Int)<2 by decide);have h2:=Int.lt_tmod_of_pos st.d (show (0:Int)<2 by decide);unfold wrap64;omega
      by_cases hd:st.d.tmod 2=0
      ·go_wp2_with fail
       refine (HB3.out.recover_go HTORN.out HUP3.out).mono ?_
       rintro e w4 ⟨rfl,s4,hb4,hc4,hdn4,hX4,hrs4,hp4,hsp4⟩
       have hvb:=vals_back (L:=L) (s':=s3) hb4 hc4 rfl rfl HV3.out (fun i hi=>by rw [hX4,hrs4 i hi];exact Alike.refl _ _)
       have BANK4:=hid hb4
       have CALM4:=hid hc4
       have UP4:=hid (show ∀i,i<L.n→s4.dn i=false from fun i hi=>by rw [hdn4];exact HUP3.out i hi)
       have VALS4:=hid hvb.1
       have FIT4:=hid (show FitAll V3 (s4.rss 0).length l∨FitAll V3 (s4.rss 0).length (behindL l st) from by rw [hvb.2];exact HFIT3.out)
       have MEMO4:=hid (HM3.out.mine HB3.out hsp4)
       have T4:=hid (show w4.heap[T]?=some (.cells st.cells 70) from hsp4.heap HT3.out (HB3.out.not_mine HT3.out (by decide) (by decide) (by decide) (by decide)))
       have BEL4:=hid (show Below w.heap.size w w4 from hbel3.trans ((HB3.out.lower hsp4).mono HH3.out.base))
       have N4:=hid (show L.n=n∧L.key=key∧w.heap.size≤L.base from ⟨HH3.out.n,HH3.out.key,HH3.out.base⟩)
       clear hb4 hc4 hdn4 hX4 hrs4 hp4 hsp4 hvb t0 t1 t2 t3 t4 t5 t6 t7 t8 t9
       have HHAS:=hid (show ∀w' lv' l',Below w4.heap.size w4 w'→Memo w' 0 lv' l'→l'.length≤20→Calls Tryz.prog 37 #[.pointer (some ⟨L.C,0,none⟩),lv'] w' fun e w''=>∃b:Bool,e=.returned (.bool b)∧(b=true↔FitAll V3 (s4.rss 0).length l')∧Below w'.heap.size w' w'' from fun w' lv' l' hbw hm hl=>has_any (BANK4.out.below hbw) CALM4.out UP4.out VALS4.out 0 lv' l' hm hl)
       have HBEH4:=hid (show ∀w',Below w4.heap.size w4 w'→Calls Tryz.prog 33 #[.slice la ln lc,.agg #[.int .i64 st.kind,.int .i64 st.a,.int .i64 st.b,.int .i64 st.c,.int .i64 st.d,.string st.v,.string st.tp,.int .i64 st.m,.int .i64 st.t,.int .i64 st.l]] w' fun e w''=>∃v,e=.returned v∧Memo w'' 0 v (behindL l st)∧Below w'.heap.size w' w'' from fun w' hbw=>by
        rw [HLN.out]
        exact behind_any 0 _ l st w' (MEMO4.out.below hbw) (by omega) HSOK.out)
       have MEMO5:=hid (show ∀w',Below w4.heap.size w4 w'→Memo w' 0 (.slice la ln lc) l from fun w' hbw=>by rw [HLN.out];exact MEMO4.out.below hbw)
       clear HBEH HDID
       go_wp2_with fail
       refine (HHAS.out w4 _ l (Below.refl _ _) (MEMO5.out _ (Below.refl _ _)) (by omega)).mono ?_
       rintro e w5 ⟨bx,rfl,hbx,hb5⟩
       have HBX:=hid hbx
       clear hbx
       obtain ⟨t0,t1,t2,t3,t4,t5,t6,t7,t8,t9⟩:=step_block ((hb5.block T (cells_lt T4.out)).trans T4.out)
       go_wp2_with fail
       refine (HBEH4.out w5 hb5).mono ?_
       rintro e w6 ⟨lm,rfl,hm6,hb6⟩
       have HM6:=hid hm6
       have hb46:=hb5.trans (hb6.mono hb5.size)
       clear hm6 t0 t1 t2 t3 t4 t5 t6 t7 t8 t9
       go_wp2_with fail
       refine (HHAS.out w6 _ _ hb46 HM6.out (by omega)).mono ?_
       rintro e w7 ⟨bm,rfl,hbm,hb7⟩
       have HBM:=hid hbm
       have hb47:=hb46.trans (hb7.mono hb46.size)
       clear hbm
       cases bx with
       | true =>
        have HFX:=hid (HBX.out.1 rfl)
        cases bm with
        | true =>
         go_wp2_with fail
         refine (HHAS.out w7 _ l hb47 (MEMO5.out _ hb47) (by omega)).mono ?_
         rintro e w8 ⟨bz,rfl,hbz,hb8⟩
         obtain rfl:=hbz.2 HFX.out
         have hb48:=hb47.trans (hb8.mono hb47.size)
         clear hbz
         go_wp2_with fail
         go_roundw
         case rel=>exact ⟨k+1,L,s4,V3,l,by go_num,hlt,⟨rfl,BANK4.out.below hb48,⟨CALM4.out,UP4.out,VALS4.out,HFX.out,HH3.out.fine.nd⟩,MEMO5.out _ hb48,N4.out.1,N4.out.2.1,N4.out.2.2,BEL4.out.trans (hb48.mono BEL4.out.size)⟩⟩
         case measure=>simp [intOf];omega
        | false =>
         go_wp2_with fail
         refine (HHAS.out w7 _ l hb47 (MEMO5.out _ hb47) (by omega)).mono ?_
         rintro e w8 ⟨bz,rfl,hbz,hb8⟩
         obtain rfl:=hbz.2 HFX.out
         have hb48:=hb47.trans (hb8.mono hb47.size)
         clear hbz
         go_wp2_with fail
         go_roundw
         case rel=>exact ⟨k+1,L,s4,V3,l,by go_num,hlt,⟨rfl,BANK4.out.below hb48,⟨CALM4.out,UP4.out,VALS4.out,HFX.out,HH3.out.fine.nd⟩,MEMO5.out _ hb48,N4.out.1,N4.out.2.1,N4.out.2.2,BEL4.out.trans (hb48.mono BEL4.out.size)⟩⟩
         case measure=>simp [intOf];omega
       | false =>
        have HFM:=hid (show FitAll V3 (s4.rss 0).length (behindL l st) from FIT4.out.elim (fun h=>by have:=HBX.out.2 h;cases this) id)
        obtain rfl:=HBM.out.2 HFM.out
        go_wp2_with fail
        refine (HHAS.out w7 _ _ hb47 (HM6.out.below hb7) (by omega)).mono ?_
        rintro e w8 ⟨bz,rfl,hbz,hb8⟩
        obtain rfl:=hbz.2 HFM.out
        have hb48:=hb47.trans (hb8.mono hb47.size)
        clear hbz
        go_wp2_with fail
        go_roundw
        case rel=>exact ⟨k+1,L,s4,V3,behindL l st,by go_num,hlt,⟨rfl,BANK4.out.below hb48,⟨CALM4.out,UP4.out,VALS4.out,HFM.out,HND.out⟩,(HM6.out.below hb7).below hb8,N4.out.1,N4.out.2.1,N4.out.2.2,BEL4.out.trans (hb48.mono BEL4.out.size)⟩⟩
        case measure=>simp [intOf];omega
      ·have HCUT:=hid (show ∃o,cutOf L.n s3.rss=some o from by obtain ⟨_,g,c,h⟩:=HTORN.out;exact ⟨_,h⟩)
       have hLn:=HH3.out.n
       have hLk:=HH3.out.key
       have HIM:=hid HB3.out.images_go
       have HREO:=hid (fun w1 hb1 g c hrow=>HB3.out.reopen_go (w1:=w1) HCUT.out hb1 g c hrow)
       rw [hLn] at HIM
       rw [hLn,hLk] at HREO
       go_wp2_with fail
       refine HIM.out.mono ?_
       rintro e w31 ⟨g,rfl,hown,hb31⟩
       obtain ⟨ga,gc,hgv,hgr⟩:=owns_rd_size hown
       cases hgv
       have HGR:=hid hgr
       clear hown hgr HIM
       go_wp2_with fail
       refine (HREO.out w31 hb31 g n HGR.out).mono ?_
       rintro e w4 ⟨L4,s4,rfl,hb4,hc4,hn4,hk4,hbs4,hup4,hal4,hbw4⟩
       have hb34:=hb31.trans (hbw4.mono hb31.size)
       have hvb:=vals_back (L:=L) (s':=s3) hb4 hc4 (by rw [hn4,hLn]) (by rw [hk4,hLk]) HV3.out (by rw [hLn];exact hal4)
       have BANK4:=hid hb4
       have CALM4:=hid hc4
       have UP4:=hid (show ∀i,i<L4.n→s4.dn i=false from by rw [hn4];exact hup4)
       have VALS4:=hid hvb.1
       have FIT4:=hid (show FitAll V3 (s4.rss 0).length l∨FitAll V3 (s4.rss 0).length (behindL l st) from by rw [hvb.2];exact HFIT3.out)
       have MEMO4:=hid (HM3.out.below hb34)
       have T4:=hid (show w4.heap[T]?=some (.cells st.cells 70) from (hb34.block T (cells_lt HT3.out)).trans HT3.out)
       have BEL4:=hid (show Below w.heap.size w w4 from hbel3.trans (hb34.mono hbel3.size))
       have N4:=hid (show L4.n=n∧L4.key=key∧w.heap.size≤L4.base from ⟨hn4,hk4,by have h1:=hbel3.size;have h2:=hb31.size;omega⟩)
       clear hb4 hc4 hn4 hk4 hbs4 hup4 hal4 hbw4 hvb hb34 HREO t0 t1 t2 t3 t4 t5 t6 t7 t8 t9
       have HHAS:=hid (show ∀w' lv' l',Below w4.heap.size w4 w'→Memo w' 0 lv' l'→l'.length≤20→Calls Tryz.prog 37 #[.pointer (some ⟨L4.C,0,none⟩),lv'] w' fun e w''=>∃b:Bool,e=.returned (.bool b)∧(b=true↔FitAll V3 (s4.rss 0).length l')∧Below w'.heap.size w' w'' from fun w' lv' l' hbw hm hl=>has_any (BANK4.out.below hbw) CALM4.out UP4.out VALS4.out 0 lv' l' hm hl)
       have HBEH4:=hid (show ∀w',Below w4.heap.size w4 w'→Calls Tryz.prog 33 #[.slice la ln lc,.agg #[.int .i64 st.kind,.int .i64 st.a,.int .i64 st.b,.int .i64 st.c,.int .i64 st.d,.string st.v,.string st.tp,.int .i64 st.m,.int .i64 st.t,.int .i64 st.l]] w' fun e w''=>∃v,e=.returned v∧Memo w'' 0 v (behindL l st)∧Below w'.heap.size w' w'' from fun w' hbw=>by
        rw [HLN.out]
        exact behind_any 0 _ l st w' (MEMO4.out.below hbw) (by omega) HSOK.out)
       have MEMO5:=hid (show ∀w',Below w4.heap.size w4 w'→Memo w' 0 (.slice la ln lc) l from fun w' hbw=>by rw [HLN.out];exact MEMO4.out.below hbw)
       clear HBEH HDID
       go_wp2_with fail
       refine (HHAS.out w4 _ l (Below.refl _ _) (MEMO5.out _ (Below.refl _ _)) (by omega)).mono ?_
       rintro e w5 ⟨bx,rfl,hbx,hb5⟩
       have HBX:=hid hbx
       clear hbx
       obtain ⟨t0,t1,t2,t3,t4,t5,t6,t7,t8,t9⟩:=step_block ((hb5.block T (cells_lt T4.out)).trans T4.out)
       go_wp2_with fail
       refine (HBEH4.out w5 hb5).mono ?_
       rintro e w6 ⟨lm,rfl,hm6,hb6⟩
       have HM6:=hid hm6
       have hb46:=hb5.trans (hb6.mono hb5.size)
       clear hm6 t0 t1 t2 t3 t4 t5 t6 t7 t8 t9
       go_wp2_with fail
       refine (HHAS.out w6 _ _ hb46 HM6.out (by omega)).mono ?_
       rintro e w7 ⟨bm,rfl,hbm,hb7⟩
       have HBM:=hid hbm
       have hb47:=hb46.trans (hb7.mono hb46.size)
       clear hbm
       cases bx with
       | true =>
        have HFX:=hid (HBX.out.1 rfl)
        cases bm with
        | true =>
         go_wp2_with fail
         refine (HHAS.out w7 _ l hb47 (MEMO5.out _ hb47) (by omega)).mono ?_
         rintro e w8 ⟨bz,rfl,hbz,hb8⟩
         obtain rfl:=hbz.2 HFX.out
         have hb48:=hb47.trans (hb8.mono hb47.size)
         clear hbz
         go_wp2_with fail
         go_roundw
         case rel=>exact ⟨k+1,L4,s4,V3,l,by go_num,hlt,⟨rfl,BANK4.out.below hb48,⟨CALM4.out,UP4.out,VALS4.out,HFX.out,HH3.out.fine.nd⟩,MEMO5.out _ hb48,N4.out.1,N4.out.2.1,N4.out.2.2,BEL4.out.trans (hb48.mono BEL4.out.size)⟩⟩
         case measure=>simp [intOf];omega
        | false =>
         go_wp2_with fail
         refine (HHAS.out w7 _ l hb47 (MEMO5.out _ hb47) (by omega)).mono ?_
         rintro e w8 ⟨bz,rfl,hbz,hb8⟩
         obtain rfl:=hbz.2 HFX.out
         have hb48:=hb47.trans (hb8.mono hb47.size)
         clear hbz
         go_wp2_with fail
         go_roundw
         case rel=>exact ⟨k+1,L4,s4,V3,l,by go_num,hlt,⟨rfl,BANK4.out.below hb48,⟨CALM4.out,UP4.out,VALS4.out,HFX.out,HH3.out.fine.nd⟩,MEMO5.out _ hb48,N4.out.1,N4.out.2.1,N4.out.2.2,BEL4.out.trans (hb48.mono BEL4.out.size)⟩⟩
         case measure=>simp [intOf];omega
       | false =>
        have HFM:=hid (show FitAll V3 (s4.rss 0).length (behindL l st) from FIT4.out.elim (fun h=>by have:=HBX.out.2 h;cases this) id)
        obtain rfl:=HBM.out.2 HFM.out
        go_wp2_with fail
        refine (HHAS.out w7 _ _ hb47 (HM6.out.below hb7) (by omega)).mono ?_
        rintro e w8 ⟨bz,rfl,hbz,hb8⟩
        obtain rfl:=hbz.2 HFM.out
        have hb48:=hb47.trans (hb8.mono hb47.size)
        clear hbz
        go_wp2_with fail
        go_roundw
        case rel=>exact ⟨k+1,L4,s4,V3,behindL l st,by go_num,hlt,⟨rfl,BANK4.out.below hb48,⟨CALM4.out,UP4.out,VALS4.out,HFM.out,HND.out⟩,(HM6.out.below hb7).below hb8,N4.out.1,N4.out.2.1,N4.out.2.2,BEL4.out.trans (hb48.mono BEL4.out.size)⟩⟩
        case measure=>simp [intOf];omega
     ·have he:s3=s:=Fine.refused HDID.out hk0 hk1
      subst he
      have HHAS:=hid (show Calls Tryz.prog 37 #[.pointer (some ⟨L.C,0,none⟩),.slice la ln lc] w3 fun e w'=>∃b:Bool,e=.returned (.bool b)∧(b=true↔FitAll V (s3.rss 0).length l)∧Below w3.heap.size w3 w' from by
       rw [HLN.out]
       exact has_any HB3.out HH3.out.fine.calm HH3.out.fine.up HH3.out.fine.vals 0 _ l HM3.out (by have:=HH3.out.len;omega))
      go_wp2_with (first | (go_at_call 37;refine HHAS.out.mono ?_;rintro e w5 ⟨bb,rfl,hbb,hb5⟩;(obtain rfl:=hbb.2 HH3.out.fine.fit);clear hbb)|fail)
      go_roundw
      case rel=>exact ⟨k+1,L,s3,V,l,by go_num,hlt,⟨rfl,HB3.out.below hb5,HH3.out.fine,by rw [HLN.out];exact HM3.out.below hb5,HH3.out.n,HH3.out.key,HH3.out.base,hbel3.trans (hb5.mono hbel3.size)⟩⟩
      case measure=>simp [intOf];omega
  ·have hkk:k=q:=by omega
   subst hkk
   go_wp2_with fail
   go_ret
   exact ⟨rfl,hb⟩
end Go.Proofs.YtcegdgmbponapaaGreatDoor