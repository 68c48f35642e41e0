/-
  image.Records: the records of a text, or a refusal.
  vault.storesOf: stores out of images.
  vault.storesOf, walked.
  An error wrapped by the kind that the caller is told.
-/
import Derived.Test.YtcegdgmbponapabGreatDoorPart33
namespace Go.Proofs.YtcegdgmbponapabGreatDoor
open Go.RowKit
attribute [local go_sem ↓] Go.wp_at_zero Go.wp_at_succ
theorem arrF58 (t:Array Value) (h:t.size=58):∃f:Nat→Value,(∀k,t.getD k undef=f k)∧t=#[f 0,f 1,f 2,f 3,f 4,f 5,f 6,f 7,f 8,f 9,f 10,f 11,f 12,f 13,f 14,f 15,f 16,f 17,f 18,f 19,f 20,f 21,f 22,f 23,f 24,f 25,f 26,f 27,f 28,f 29,f 30,f 31,f 32,f 33,f 34,f 35,f 36,f 37,f 38,f 39,f 40,f 41,f 42,f 43,f 44,f 45,f 46,f 47,f 48,f 49,f 50,f 51,f 52,f 53,f 54,f 55,f 56,f 57]:=⟨fun k=>t.getD k undef,fun _=>rfl,arr_of t 58 h⟩
def RecsPost (w:World) (n no:Nat) (T:ByteArray) (e:Ending) (w':World):Prop :=
 (∃v rs X last,e=.returned (.tuple #[v,.nilIface])∧w'.ownsRow w.heap.size 127 8 v rs.length (recs rs)∧Got w' w.heap.size n rs X last∧rs.length≤10∧Parses n no 10 T ⟨#[]⟩ (rs.map (RecV.ct X))∧Below w.heap.size w w') ∨
 ((∀L,¬Parses n no 10 T ⟨#[]⟩ L)∧∃ev k d,d≤4∧e=.returned (.tuple #[.slice none 0 0,ev])∧Chain w' k d ev∧Below w.heap.size w w')
def rcS (i:Nat):Nat:=if i=8 then 8 else if i=9 then 9 else if i=10 then 10 else i+49
def rcV (W W2 k T0:Nat) (v8:Value) (rs:List RecV) (r:RecV) (rest:ByteArray):Nat→Value→World→Prop
 | 0,v,_=>v=v8
 | 1,v,_=>v=.agg #[.string r.name,.int .i64 r.mode,.int .i64 r.t,.int .i64 r.l,.int .i64 r.size,.int .i64 r.epoch,.slice r.sa r.sn r.sc,.slice r.na r.nn r.nc]
 | 2,v,w=>∃b,v=.slice (some ⟨b,0,none⟩) 1 1∧W2≤b∧w.heap[b]?=some (.cells #[.string r.name,.int .i64 r.mode,.int .i64 r.t,.int .i64 r.l,.int .i64 r.size,.int .i64 r.epoch,.slice r.sa r.sn r.sc,.slice r.na r.nn r.nc] 127)
 | 3,v,w=>w.ownsRow W 127 8 v (k+1) (recs rs++r.cells)
 | 4,v,_=>v=.pointer (some ⟨T0,0,none⟩)
 | 5,v,_=>v=.pointer (some ⟨T0,0,none⟩)
 | 6,v,_=>v=.string r.name
 | 7,v,_=>v=.string rest
 | 8,v,w=>w.ownsRow W 127 8 v (k+1) (recs rs++r.cells)
 | 9,v,_=>v=.string r.name
 | 10,v,_=>v=.string rest
 | _,_,_=>True
theorem rcV_keeps (W W2 k T0:Nat) (v8:Value) (rs:List RecV) (r:RecV) (rest:ByteArray) (h8:∀b,v8.ownBlock=some b→b<W2) (i j:Nat) (v:Value) (w w':World) (hij:¬(i=3∧(j=3∨j=8))) (h:rcV W W2 k T0 v8 rs r rest j v w) (hs:Spared (fun b=>i=3∧v8.ownBlock=some b) w w'):rcV W W2 k T0 v8 rs r rest j v w':=by
 unfold rcV at h ⊢
 split at h
 ·exact h
 ·exact h
 ·obtain ⟨b,h1,h2,h3⟩:=h
  exact ⟨b,h1,h2,hs.heap h3 (fun ⟨_,e⟩=>by have:=h8 b e;omega)⟩
 ·exact owns_spared h hs (fun b _ ⟨e,_⟩=>hij ⟨e,.inl rfl⟩)
 ·exact h
 ·exact h
 ·exact h
 ·exact h
 ·exact owns_spared h hs (fun b _ ⟨e,_⟩=>hij ⟨e,.inr rfl⟩)
 ·exact h
 ·exact h
 ·trivial
set_option maxRecDepth 100000 in
set_option maxHeartbeats 4000000 in
theorem irecords_any (T:ByteArray) (n no:Nat) (w:World) (hbig:T.size≤9223372036854775807) (hn1:1≤n) (hn8:n≤8) (hT:Tab w) :
  Calls Tryz.prog 78 #[.string T,.int .i64 n,.int .i64 no] w fun e w'=>RecsPost w n no T e w':=by
 obtain ⟨i0,hi,hz0,hz1,hz2⟩:=info_parts Tryz.infoR
 have HT:=hid hT
 clear hT
 go_enter Tryz.func78,Tryz.ntmps78
 go_wp2_with fail
 go_loopw [8,9,10] (fun v8 v9 v10 wr=>∃(rs:List RecV) (X:Nat→List UInt8) (last rest:ByteArray),v9=.string last∧v10=.string rest∧wr.ownsRow w.heap.size 127 8 v8 rs.length (recs rs)∧Got wr w.heap.size n rs X last∧rs.length≤10∧(∀L,Parses n no 10 T ⟨#[]⟩ L↔∃L',L=rs.map (RecV.ct X)++L'∧Parses n no (10-rs.length) rest last L')∧rest.size≤T.size∧Below w.heap.size w wr) (fun _ _ v10 _=>match v10 with | .string s=>s.size | _=>0)
 case atStart=>exact ⟨[],fun _=>[],⟨#[]⟩,T,rfl,rfl,⟨rfl,.inl ⟨rfl,rfl⟩⟩,⟨by simp,by simp,List.Pairwise.nil,by simp⟩,by simp,fun L=>by simp,Nat.le_refl _,Below.refl _ _⟩
 case round =>
  obtain ⟨rs,X,last,rest,rfl,rfl,hown,hgot,hle,hpar,hrs,hbr⟩:=hrel
  obtain ⟨k,hk⟩:∃k,k=rs.length:=⟨_,rfl⟩
  rw [←hk] at hown hle hpar
  have HK:=hid hk
  have HPAR:=hid hpar
  have HGOT:=hid hgot
  have HOWN:=hid hown
  obtain ⟨v8,hv8⟩:∃v8,v8=u8:=⟨_,rfl⟩
  obtain ⟨oa,oc,hsl,_⟩:=owns_rd_size hown
  subst hsl
  clear hk hpar hgot hown
  by_cases h0:rest.size=0
  ·have h0':¬(0:Int)<(rest.size:Int):=by omega
   have HP:=hid (show Parses n no 10 T ⟨#[]⟩ (rs.map (RecV.ct X)) from (HPAR.out _).2 ⟨[],by simp,parses_end h0⟩)
   clear h0 HPAR
   go_wp2_with fail
   go_ret2
   exact .inl ⟨_,rs,X,last,rfl,by rw [←HK.out];exact HOWN.out,HGOT.out,by rw [←HK.out];exact hle,HP.out,hbr⟩
  ·have h0':(0:Int)<(rest.size:Int):=by omega
   by_cases h10:k=10
   ·have HNO:=hid (show ∀L,¬Parses n no 10 T ⟨#[]⟩ L from fun L hL=>by
     obtain ⟨L',_,h⟩:=(HPAR.out L).1 hL
     rw [h10,Nat.sub_self] at h
     exact parses_full (by omega) L' h)
    subst h10
    have hI:I64 (rest.size:Int):=by unfold I64;omega
    have HTR:=hid (HT.out.keeps hbr (Nat.le_refl _))
    clear HPAR HGOT HOWN HK
    go_wp2_with (go_at_call 77;refine (atCount_any (rest.size:Int) _ _ 6 0 _ hI (by decide) HTR.out .hit).mono ?_;rintro e w3 ⟨e3,rfl,hch3,hb3⟩;(have HCH:=hid hch3);clear hch3)
    go_ret2
    exact .inr ⟨HNO.out,e3,6,1,by omega,rfl,HCH.out,hbr.trans (hb3.mono hbr.size)⟩
   ·have hk10:¬(k:Int)=10:=by omega
    have hk10':((k:Int) == 10)=false:=by simpa using hk10
    have HRD:=hid (iread_any rest n no wr (by omega) (by omega) hn1 hn8 (HT.out.keeps hbr (Nat.le_refl _)))
    have HK9:=hid (show 10-k=(9-k)+1 by omega)
    have HTR:=hid (HT.out.keeps hbr (Nat.le_refl _))
    have hk9:k<10:=by omega
    clear h10 hk10
    go_wp2_with fail
    refine HRD.out.mono ?_
    rintro e w2 (⟨hok,r,Y,rfl,hgood,hct,hb2⟩|⟨hno,ev,kk,d,hd,rfl,hch,hb2⟩)
    ·by_cases hlast:cmpB last (obOf rest).name<0
     ·have hrn:(obOf rest).name=r.name:=(congrArg (fun c=>c.ob.name) hct).symm
      have HPN:=hid (show ∀L,Parses n no 10 T ⟨#[]⟩ L↔∃L',L=(rs++[r]).map (RecV.ct fun b=>if b<wr.heap.size then X b else Y b)++L'∧Parses n no (10-(rs++[r]).length) (restOf rest) r.name L' from fun L=>by
       rw [HPAR.out L,(HGOT.out.more hb2 hbr.size r hgood (by rw [←hrn];exact hlast)).2,hct,List.length_append,List.length_singleton,←HK.out,show 10-(k+1)=9-k by omega]
       constructor
       ·rintro ⟨L',rfl,h⟩
        rw [HK9.out] at h
        obtain ⟨L'',rfl,h'⟩:=(parses_step (by omega) hok hlast L').1 h
        rw [hrn] at h'
        exact ⟨L'',by simp,h'⟩
       ·rintro ⟨L',rfl,h⟩
        refine ⟨ctOf rest :: L',by simp,?_⟩
        rw [HK9.out]
        exact (parses_step (by omega) hok hlast _).2 ⟨L',rfl,by rw [hrn];exact h⟩)
      have HGM:=hid (HGOT.out.more hb2 hbr.size r hgood (by rw [←hrn];exact hlast))
      rw [hrn] at hlast
      obtain ⟨hcond1,hcond2⟩:=name_behind hlast
      unfold RecV.val
      have hba3:=(Below.refl w2.heap.size w2).alloc (Nat.le_refl _) (.cells #[.string r.name,.int .i64 r.mode,.int .i64 r.t,.int .i64 r.l,.int .i64 r.size,.int .i64 r.epoch,.slice r.sa r.sn r.sc,.slice r.na r.nn r.nc] 127)
      have hb02:=hbr.trans (hb2.mono hbr.size)
      have HB3:=hid (hb02.trans (hba3.mono hb02.size))
      have HT3:=hid (alloc_at w2 (.cells #[.string r.name,.int .i64 r.mode,.int .i64 r.t,.int .i64 r.l,.int .i64 r.size,.int .i64 r.epoch,.slice r.sa r.sn r.sc,.slice r.na r.nn r.nc] 127))
      have HG3:=hid (show Got (w2.alloc (.cells #[.string r.name,.int .i64 r.mode,.int .i64 r.t,.int .i64 r.l,.int .i64 r.size,.int .i64 r.epoch,.slice r.sa r.sn r.sc,.slice r.na r.nn r.nc] 127)) w.heap.size n (rs++[r]) (fun b=>if b<wr.heap.size then X b else Y b) r.name∧True from ⟨HGM.out.1.keeps (Spared.ofBelow (own:=fun _=>False) hba3 (Nat.le_refl _)) (fun _ _ _ _ h=>h),trivial⟩)
      have HOWN3:=hid (owns_below_size (owns_below_size HOWN.out hb2 (Nat.le_refl _)) hba3 (Nat.le_refl _))
      have hr8W:∀b,(Value.slice oa k oc).ownBlock=some b→b<w2.heap.size:=fun b hb=>Nat.lt_of_lt_of_le ((HOWN.out).lt b hb).2 hb2.size
      have HOKK:=hid hok
      clear HPAR HGOT HOWN HRD hgood hct hrn hlast hok HGM
      go_wp2_with fail
      generalize w2.alloc (.cells #[.string r.name,.int .i64 r.mode,.int .i64 r.t,.int .i64 r.l,.int .i64 r.size,.int .i64 r.epoch,.slice r.sa r.sn r.sc,.slice r.na r.nn r.nc] 127)=w3 at *
      have hok:=HOKK.out
      have hW23:w2.heap.size<w3.heap.size:=cells_lt HT3.out
      have HCELL:∀w':World,Spared (fun b=>∃i,i=3∧(Value.slice oa k oc).ownBlock=some b) { w3 with drawn:=w3.drawn+1 } w'→w'.cell? ⟨w2.heap.size,0,none⟩=some (.string r.name)∧w'.cell? ⟨w2.heap.size,1,none⟩=some (.int .i64 r.mode)∧w'.cell? ⟨w2.heap.size,2,none⟩=some (.int .i64 r.t)∧w'.cell? ⟨w2.heap.size,3,none⟩=some (.int .i64 r.l)∧w'.cell? ⟨w2.heap.size,4,none⟩=some (.int .i64 r.size)∧w'.cell? ⟨w2.heap.size,5,none⟩=some (.int .i64 r.epoch)∧w'.cell? ⟨w2.heap.size,6,none⟩=some (.slice r.sa r.sn r.sc)∧w'.cell? ⟨w2.heap.size,7,none⟩=some (.slice r.na r.nn r.nc):=by
       intro w' hs
       have hh:w'.heap[w2.heap.size]?=_:=hs.heap HT3.out (by rintro ⟨i,_,e⟩;have:=hr8W _ e;omega)
       exact ⟨by rw [cells_at hh];rfl,by rw [cells_at hh];rfl,by rw [cells_at hh];rfl,by rw [cells_at hh];rfl,by rw [cells_at hh];rfl,by rw [cells_at hh];rfl,by rw [cells_at hh];rfl,by rw [cells_at hh];rfl⟩
      have MK:∀(i:Nat) (a:Act) (w':World) (o:Oper),a.tmps.size=58→i<11→StepOk Tryz.prog o a w' (fun v w''=>Spared (fun b=>i=3∧(Value.slice oa k oc).ownBlock=some b) w' w''∧rcV w.heap.size w3.heap.size k w2.heap.size (.slice oa k oc) rs r (restOf rest) i v w'')→StepOk Tryz.prog o a w' (fun v w''=>Spared (fun b=>i=3∧(Value.slice oa k oc).ownBlock=some b) w' w''∧rcV w.heap.size w3.heap.size k w2.heap.size (.slice oa k oc) rs r (restOf rest) i ((a.put (some (rcS i)) v).tmps.getD (rcS i) undef) w''):=by
       intro i a w' o hsz hi11 h
       refine h.weaken fun v w'' hp=>⟨hp.1,?_⟩
       have hsl:rcS i<a.tmps.size:=by
        unfold rcS
        split
        ·omega
        ·split
         ·omega
         ·split<;>omega
       rw [put_eq _ _ _ hsl]
       exact hp.2
      refine wp_region_own (by kernel_rfl) rcS (fun j a w'=>rcV w.heap.size w3.heap.size k w2.heap.size (.slice oa k oc) rs r (restOf rest) j (a.tmps.getD (rcS j) undef) w') (fun j w'=>j=3→w'.ownsRow w.heap.size 127 8 (.slice oa k oc) k (recs rs)) (fun i b=>i=3∧(Value.slice oa k oc).ownBlock=some b) [(0,.string T),(1,.int .i64 n),(2,.int .i64 no),(3,undef),(4,undef),(5,undef),(6,u6),(7,u7),(8,.slice oa k oc),(11,.pointer (some ⟨w2.heap.size,0,none⟩)),(12,.string (restOf rest)),(14,.string T),(57,undef)] 58 (fun i=>if i=0 then [8] else if i=1∨i=4 then [11] else if i=7 then [12] else []) (by kernel_rfl) rfl rfl (by simp) ?_ ?_ ?_ ?_ ?_
      ·exact fun _ _ _=>HOWN3.out
      ·intro i j ac v w4 w5 hj hij hwt _ hr hs hsl
       rw [put_ne _ _ _ _ hsl]
       refine rcV_keeps _ _ _ _ _ _ _ _ (fun b hb=>Nat.lt_trans (hr8W b hb) hW23) i j _ w4 w5 ?_ hr hs
       rintro ⟨rfl,rfl | rfl⟩
       ·exact hij rfl
       ·exact absurd (Eq.trans (show true=_ by kernel_rfl) hwt) (by decide)
      ·intro i j w4 w5 hij _ hu hs hj3
       exact owns_spared (hu hj3) hs (fun b hb ⟨e,_⟩=>hij (e.trans hj3.symm))
      ·refine ⟨?_,?_,?_,?_,?_,?_,?_,?_,?_,?_,?_,trivial⟩
       ·intro ac w' hsz hs hf hd2 hu
        have hd:=fun e he hb=>(hd2 e he hb).1
        refine MK 0 ac w' _ hsz (by decide) ?_
        clear hsz
        have f8:ac.tmps[8]?.getD undef=.slice oa k oc:=by simpa using hf (8,.slice oa k oc) (by simp) rfl
        simp [rcV,rcS,Region.binds] at hd
        exact .inl ⟨.slice oa k oc,w',by go_simp,Spared.refl _ _,rfl⟩
       ·intro ac w' hsz hs hf hd2 hu
        have hd:=fun e he hb=>(hd2 e he hb).1
        refine MK 1 ac w' _ hsz (by decide) ?_
        clear hsz
        have f11:ac.tmps[11]?.getD undef=.pointer (some ⟨w2.heap.size,0,none⟩):=by simpa using hf (11,.pointer (some ⟨w2.heap.size,0,none⟩)) (by simp) rfl
        obtain ⟨k0,k1,k2,k3,k4,k5,k6,k7⟩:=HCELL w' hs
        simp [rcV,rcS,Region.binds] at hd
        exact .inl ⟨.agg #[.string r.name,.int .i64 r.mode,.int .i64 r.t,.int .i64 r.l,.int .i64 r.size,.int .i64 r.epoch,.slice r.sa r.sn r.sc,.slice r.na r.nn r.nc],w',by go_simp,Spared.refl _ _,rfl⟩
       ·intro ac w' hsz hs hf hd2 hu
        have hd:=fun e he hb=>(hd2 e he hb).1
        refine MK 2 ac w' _ hsz (by decide) ?_
        clear hsz
        simp [rcV,rcS,Region.binds] at hd
        refine .inl ⟨.slice (some ⟨w'.heap.size,0,none⟩) 1 1,w'.alloc (.cells #[.string r.name,.int .i64 r.mode,.int .i64 r.t,.int .i64 r.l,.int .i64 r.size,.int .i64 r.epoch,.slice r.sa r.sn r.sc,.slice r.na r.nn r.nc] 127),by go_simp,Spared.ofBelow ((Below.refl _ _).alloc (Nat.le_refl _) _) (Nat.le_refl _),w'.heap.size,rfl,hs.size,alloc_at _ _⟩
       ·intro ac w' hsz hs hf hd2 hu
        refine MK 3 ac w' _ hsz (by decide) ?_
        clear hsz
        have h0:ac.tmps.getD 49 undef=.slice oa k oc:=(hd2 ⟨0,.data⟩ (by simp) rfl).1
        obtain ⟨b3,h3,hb3,hc3⟩:=(hd2 ⟨2,.data⟩ (by simp) rfl).1
        have h3':ac.tmps.getD 51 undef=.slice (some ⟨b3,0,none⟩) 1 1:=h3
        refine append_step (.tmp 49) (.tmp 51) 98 rfl w.heap.size 127 i0 _ 8 104 Tryz.underlying98 hi hz0 hz1 hz2 rfl (by decide) (.slice oa k oc) k (recs rs) (by simpa [Act.eval] using h0) (hu rfl) ⟨b3,0,none⟩ 1 1 r.cells (by simpa [Act.eval] using h3') rfl (fun j u hj=>by rw [add_at,Nat.zero_add,cells_at hc3];simpa [RecV.cells] using hj) (fun u hu=>recs_one_cell [r] u (by simpa [recs] using hu)) (by unfold maxLen;omega) (by omega) (by have h9:=hs.size;have h8:=HB3.out.size;simp at h9 ⊢;omega) (by decide) ?_
        intro v' w'' h1 h2 _
        exact ⟨(grown_spared h2).mono fun b hb=>⟨rfl,hb⟩,h1⟩
       ·intro ac w' hsz hs hf hd2 hu
        have hd:=fun e he hb=>(hd2 e he hb).1
        refine MK 4 ac w' _ hsz (by decide) ?_
        clear hsz
        have f11:ac.tmps[11]?.getD undef=.pointer (some ⟨w2.heap.size,0,none⟩):=by simpa using hf (11,.pointer (some ⟨w2.heap.size,0,none⟩)) (by simp) rfl
        simp [rcV,rcS,Region.binds] at hd
        exact .inl ⟨.pointer (some ⟨w2.heap.size,0,none⟩),w',by go_simp,Spared.refl _ _,rfl⟩
       ·intro ac w' hsz hs hf hd2 hu
        have hd:=fun e he hb=>(hd2 e he hb).1
        refine MK 5 ac w' _ hsz (by decide) ?_
        clear hsz
        simp [rcV,rcS,Region.binds] at hd
        exact .inl ⟨.pointer (some ⟨w2.heap.size,0,none⟩),w',by go_simp,Spared.refl _ _,rfl⟩
       ·intro ac w' hsz hs hf hd2 hu
        have hd:=fun e he hb=>(hd2 e he hb).1
        refine MK 6 ac w' _ hsz (by decide) ?_
        clear hsz
        obtain ⟨k0,k1,k2,k3,k4,k5,k6,k7⟩:=HCELL w' hs
        simp [rcV,rcS,Region.binds] at hd
        exact .inl ⟨.string r.name,w',by go_simp,Spared.refl _ _,rfl⟩
       ·intro ac w' hsz hs hf hd2 hu
        have hd:=fun e he hb=>(hd2 e he hb).1
        refine MK 7 ac w' _ hsz (by decide) ?_
        clear hsz
        have f12:ac.tmps[12]?.getD undef=.string (restOf rest):=by simpa using hf (12,.string (restOf rest)) (by simp) rfl
        simp [rcV,rcS,Region.binds] at hd
        exact .inl ⟨.string (restOf rest),w',by go_simp,Spared.refl _ _,rfl⟩
       ·intro ac w' hsz hs hf hd2 hu
        have h3:=(hd2 ⟨3,.data⟩ (by simp) rfl).1
        refine MK 8 ac w' _ hsz (by decide) ?_
        exact .inl ⟨ac.tmps[52]?.getD undef,w',by go_simp,Spared.refl _ _,(show w'.ownsRow w.heap.size 127 8 (ac.tmps[52]?.getD undef) (k+1) (recs rs++r.cells) from by have h4:w'.ownsRow w.heap.size 127 8 (ac.tmps.getD 52 undef) (k+1) (recs rs++r.cells):=h3;simpa using h4)⟩
       ·intro ac w' hsz hs hf hd2 hu
        have hd:=fun e he hb=>(hd2 e he hb).1
        refine MK 9 ac w' _ hsz (by decide) ?_
        clear hsz
        simp [rcV,rcS,Region.binds] at hd
        exact .inl ⟨.string r.name,w',by go_simp,Spared.refl _ _,rfl⟩
       ·intro ac w' hsz hs hf hd2 hu
        have hd:=fun e he hb=>(hd2 e he hb).1
        refine MK 10 ac w' _ hsz (by decide) ?_
        clear hsz
        simp [rcV,rcS,Region.binds] at hd
        exact .inl ⟨.string (restOf rest),w',by go_simp,Spared.refl _ _,rfl⟩
      ·intro a2 w5 hdf hsz hs5 hf hr
       obtain ⟨tm2,df2⟩:=a2
       simp only at hdf hsz hf hr
       subst hdf
       obtain ⟨f,hfk,rfl⟩:=arrF58 tm2 hsz
       have r8:f 8=f 8∧w5.ownsRow w.heap.size 127 8 (f 8) (k+1) (recs rs++r.cells):=⟨rfl,by rw [←hfk 8];exact hr 8 (by decide)⟩
       have r9:f 9=.string r.name:=(hfk 9).symm.trans (hr 9 (by decide))
       have r10:f 10=.string (restOf rest):=(hfk 10).symm.trans (hr 10 (by decide))
       have e0:f 0=.string T:=(hfk 0).symm.trans (hf (0,.string T) (by simp) (show ∀k,k<11→rcS k≠0 by decide))
       have e1:f 1=.int .i64 n:=(hfk 1).symm.trans (hf (1,.int .i64 n) (by simp) (show ∀k,k<11→rcS k≠1 by decide))
       have e2:f 2=.int .i64 no:=(hfk 2).symm.trans (hf (2,.int .i64 no) (by simp) (show ∀k,k<11→rcS k≠2 by decide))
       have e3:f 3=undef:=(hfk 3).symm.trans (hf (3,undef) (by simp) (show ∀k,k<11→rcS k≠3 by decide))
       have e4:f 4=undef:=(hfk 4).symm.trans (hf (4,undef) (by simp) (show ∀k,k<11→rcS k≠4 by decide))
       have e5:f 5=undef:=(hfk 5).symm.trans (hf (5,undef) (by simp) (show ∀k,k<11→rcS k≠5 by decide))
       have e14:f 14=.string T:=(hfk 14).symm.trans (hf (14,.string T) (by simp) (show ∀k,k<11→rcS k≠14 by decide))
       have e57:f 57=undef:=(hfk 57).symm.trans (hf (57,undef) (by simp) (show ∀k,k<11→rcS k≠57 by decide))
       have e6:f 6=u6:=(hfk 6).symm.trans (hf (6,u6) (by simp) (show ∀k,k<11→rcS k≠6 by decide))
       have e7:f 7=u7:=(hfk 7).symm.trans (hf (7,u7) (by simp) (show ∀k,k<11→rcS k≠7 by decide))
       simp only [r9,r10,e0,e1,e2,e3,e4,e5,e6,e7,e14,e57]
       have hspR:Spared (fun b=>(Value.slice oa k oc).ownBlock=some b) w3 w5:=((Spared.refl (fun b=>(Value.slice oa k oc).ownBlock=some b) w3).drew).trans (hs5.mono fun b ⟨i,_,hb⟩=>hb)
       have hb05:Below w.heap.size w w5:=HB3.out.trans (hspR.below w.heap.size HB3.out.size (fun b hb=>((HOWN3.out).lt b hb).1))
       have HG5:=hid (HG3.out.1.keeps hspR (fun q hq b hb e=>by obtain ⟨_,cs,fz,hh⟩:=(HG3.out.1.ok q hq).at hb;exact row_nf HOWN3.out hh (by decide) e))
       have HR8:=hid r8.2
       have HLS:=hid (rest_less hok)
       clear hr hsz hf hfk r8 r9 r10 e0 e1 e2 e3 e4 e5 e6 e7 e14 e57 hspR hs5 HCELL MK
       go_wp2_with fail
       go_roundw
       case rel=>exact ⟨rs++[r],_,r.name,restOf rest,rfl,rfl,by rw [List.length_append,List.length_singleton,←HK.out];simpa [recs] using HR8.out,HG5.out,by rw [List.length_append,List.length_singleton,←HK.out];omega,HPN.out,by have:=HLS.out;omega,hb05⟩
       case measure=>exact HLS.out
     ·have HNO:=hid (show ∀L,¬Parses n no 10 T ⟨#[]⟩ L from fun L hL=>by
       obtain ⟨L',_,h⟩:=(HPAR.out L).1 hL
       rw [HK9.out] at h
       exact parses_not (by omega) (.inr hlast) L' h)
      have hrn:(obOf rest).name=r.name:=(congrArg (fun c=>c.ob.name) hct).symm
      rw [hrn] at hlast
      have hcond:=name_not_behind hlast
      unfold RecV.val
      have hba3:=(Below.refl w2.heap.size w2).alloc (Nat.le_refl _) (.cells #[.string r.name,.int .i64 r.mode,.int .i64 r.t,.int .i64 r.l,.int .i64 r.size,.int .i64 r.epoch,.slice r.sa r.sn r.sc,.slice r.na r.nn r.nc] 127)
      have hb02:=hbr.trans (hb2.mono hbr.size)
      have HB3:=hid (hb02.trans (hba3.mono hb02.size))
      clear HPAR HGOT HOWN HK HRD hgood hct hrn hlast hok
      go_wp2_with (go_at_call 53;refine (at_chain r.name _ 5 0 _ .hit).mono ?_;rintro e w4 ⟨e4,rfl,hch4,hb4⟩;(have HCH4:=hid hch4);clear hch4)
      go_ret2
      exact .inr ⟨HNO.out,e4,5,1,by omega,rfl,HCH4.out,HB3.out.trans (hb4.mono HB3.out.size)⟩
    ·have HNO:=hid (show ∀L,¬Parses n no 10 T ⟨#[]⟩ L from fun L hL=>by
      obtain ⟨L',_,h⟩:=(HPAR.out L).1 hL
      rw [HK9.out] at h
      exact parses_not (by omega) (.inl hno) L' h)
     have HCH:=hid hch
     obtain ⟨te,ve,rfl⟩:=hch.shape
     have hIk:I64 (k:Int):=by unfold I64;omega
     have hba3:=(Below.refl w2.heap.size w2).alloc (Nat.le_refl _) (.cells #[.string ⟨#[]⟩,.int .i64 0,.int .i64 0,.int .i64 0,.int .i64 0,.int .i64 0,.slice none 0 0,.slice none 0 0] 127)
     have hb02:=hbr.trans (hb2.mono hbr.size)
     have hb03:=hb02.trans (hba3.mono hb02.size)
     have HCH3:=hid (HCH.out.keeps hba3 (Nat.le_refl _))
     have HT3:=hid (HT.out.keeps hb03 (Nat.le_refl _))
     have HB3:=hid hb03
     clear hch hno HPAR HGOT HOWN HK HRD HCH
     go_wp2_with (go_at_call 77;refine (atCount_any (k:Int) _ _ kk d _ hIk (by decide) HT3.out HCH3.out).mono ?_;rintro e w4 ⟨e4,rfl,hch4,hb4⟩;(have HCH4:=hid hch4);clear hch4)
     go_ret2
     exact .inr ⟨HNO.out,e4,kk,d+1,by omega,rfl,HCH4.out,HB3.out.trans (hb4.mono HB3.out.size)⟩
theorem insR_end {rs:List RecV} (hs:Sorted rs) (r:RecV) (h:∀q∈rs,cmpB q.name r.name<0):insR rs r=rs++[r]:=by
 obtain ⟨h1,h2⟩:=pos_split r.name rs hs
 unfold insR
 rw [h1,h2,List.filter_eq_self.2 (fun q hq=>decide_eq_true (h q hq)),List.filter_eq_nil_iff.2 (fun q hq=>by simp [h q hq])]
theorem take_ins {rs:List RecV} (hs:rs.Pairwise (fun a b=>cmpB a.name b.name<0)) (k:Nat) (hk:k<rs.length):insR (rs.take k) (rs[k]!)=rs.take (k+1)∧hasName (rs.take k) (rs[k]!).name=false:=by
 have hp:(rs.take k).Pairwise (fun a b=>cmpB a.name b.name<0):=hs.sublist (List.take_sublist _ _)
 have hlt:∀q∈rs.take k,cmpB q.name (rs[k]!).name<0:=fun q hq=>by
  obtain ⟨i,hi,rfl⟩:=List.getElem_of_mem hq
  rw [List.length_take] at hi
  rw [List.getElem_take,getElem!_pos rs k hk]
  exact List.pairwise_iff_getElem.1 hs i k (by omega) hk (by omega)
 have hso:Sorted (rs.take k):=(sorted_iff _).2 hp
 refine ⟨?_,?_⟩
 ·rw [insR_end hso _ hlt,getElem!_pos rs k hk]
  exact List.take_append_getElem hk
 ·cases hq:hasName (rs.take k) (rs[k]!).name with
  | false=>rfl
  | true =>
   obtain ⟨q,hq,e⟩:=(hasName_iff hso _).1 hq
   have:=hlt q hq
   rw [e,cmpB_zero.2 rfl] at this
   omega
structure Made0 (w:World) (W m B i:Nat) (imgs:List ByteArray) (sp:Nat→Nat) (vs:Nat→Value) (rss:Nat→List RecV) (X:Nat→List UInt8):Prop where
 row:∃P:Array Value,w.heap[B]?=some (.cells P 97)∧P.size=m∧∀j,j<i→P[j]?=some (.pointer (some ⟨sp j,0,none⟩))
 st:∀j,j<i→Sto w (sp j) false (vs j) (rss j)
 si:∀j k,j<i→k<i→j≠k→sp j≠sp k
 vi:∀j k,j<i→k<i→j≠k→∀b,(vs j).ownBlock=some b→(vs k).ownBlock≠some b
 bsp:∀j,j<i→W≤sp j
 bv:∀j,j<i→∀b,(vs j).ownBlock=some b→W≤b
 ok:∀j,j<i→∀r∈rss j,RecGood w W m X r
 ap:Asunder i rss
 pa:∀j,j<i→Parses m j 10 (imgs[j]!) ⟨#[]⟩ ((rss j).map (RecV.ct X))
theorem Made0.below {w w':World} {W m B i:Nat} {imgs:List ByteArray} {sp:Nat→Nat} {vs:Nat→Value} {rss:Nat→List RecV} {X:Nat→List UInt8} (h:Made0 w W m B i imgs sp vs rss X) (hb:Below w.heap.size w w'):Made0 w' W m B i imgs sp vs rss X:=by
 have hs:=Spared.ofBelow (own:=fun _=>False) hb (Nat.le_refl _)
 obtain ⟨P,h1,h2⟩:=h.row
 exact ⟨⟨P,hs.heap h1 (fun h=>h),h2⟩,fun j hj=>(h.st j hj).keeps hs (fun h=>h) (fun _ _ h=>h),h.si,h.vi,h.bsp,h.bv,fun j hj r hr=>(h.ok j hj r hr).keeps hs (fun _ _ h=>h) (fun _ _=>rfl),h.ap,h.pa⟩
theorem Made0.more {w w3 w4:World} {W m B i:Nat} {imgs:List ByteArray} {sp:Nat→Nat} {vs:Nat→Value} {rss:Nat→List RecV} {X Y:Nat→List UInt8} {last:ByteArray} (h:Made0 w W m B i imgs sp vs rss X) (hW:W≤w.heap.size) (him:i<m) (S:Nat) (v':Value) (rs:List RecV)
  (hs3:Spared (fun b=>b=B) w w3) (hP:∃P:Array Value,w.heap[B]?=some (.cells P 97)∧w3.heap[B]?=some (.cells (P.setIfInBounds i (.pointer (some ⟨S,0,none⟩))) 97))
  (hs4:Spared (fun b=>b=S) w3 w4) (hSW:w.heap.size≤S) (hst:Sto w4 S false v' rs) (hv:∀b,v'.ownBlock=some b→w3.heap.size≤b)
  (hg:Got w4 w.heap.size m rs Y last) (hpa:Parses m i 10 (imgs[i]!) ⟨#[]⟩ (rs.map (RecV.ct Y))) :
  Made0 w4 W m B (i+1) imgs (fun j=>if j=i then S else sp j) (fun j=>if j=i then v' else vs j) (fun j=>if j=i then rs else rss j) (fun b=>if b<w.heap.size then X b else Y b):=by
 have hs:Spared (fun b=>b=B∨b=S) w w4:=(hs3.mono fun _ h=>.inl h).trans (hs4.mono fun _ h=>.inr h)
 obtain ⟨P,hP1,hP3⟩:=hP
 obtain ⟨P',hP',hPs,hPi⟩:=h.row
 rw [hP1] at hP'
 cases hP'
 have hBlt:=cells_lt hP1
 have hold:∀j,j<i→∀r∈rss j,∀b∈r.blks,b<w.heap.size:=fun j hj r hr b hb=>(h.ok j hj r hr).lt hb
 have hnew:∀r∈rs,∀b∈r.blks,w.heap.size≤b:=fun r hr b hb=>((hg.ok r hr).at hb).1
 have hnS:∀{b:Nat},b<w.heap.size→b≠S:=fun hb e=>by omega
 have stK:∀j,j<i→Sto w4 (sp j) false (vs j) (rss j):=fun j hj=>by
  have hj':=h.st j hj
  refine hj'.keeps hs ?_ (fun b hb=>?_)
  ·rintro (e | e)
   ·have:=hj'.hp;rw [e,hP1] at this;cases this
   ·exact hnS (cells_lt hj'.hp) e
  ·rintro (e | e)
   ·subst e;exact row_ne hj'.row hP1 (by decide) hb
   ·exact hnS ((hj'.row.lt b hb).2) e
 refine ⟨⟨_,hs4.heap hP3 (fun e=>hnS hBlt e),by simpa using hPs,fun j hj=>?_⟩,fun j hj=>?_,fun j k hj hk hjk=>?_,fun j k hj hk hjk b hb=>?_,fun j hj=>?_,fun j hj b hb=>?_,fun j hj r hr=>?_,?_,fun j hj=>?_⟩
 ·by_cases e:j=i
  ·subst e
   simp only [if_true]
   rw [Array.getElem?_setIfInBounds_self_of_lt (by omega)]
  ·simp only [e,if_false]
   rw [Array.getElem?_setIfInBounds_ne (Ne.symm e)]
   exact hPi j (by omega)
 ·by_cases e:j=i
  ·subst e;simp only [if_true];exact hst
  ·simp only [e,if_false];exact stK j (by omega)
 ·have key:∀j,j<i→sp j≠S:=fun j hj=>hnS (cells_lt (h.st j hj).hp)
  by_cases e1:j=i
  ·by_cases e2:k=i
   ·omega
   ·simp only [e1,e2,if_true,if_false];exact fun e=>key k (by omega) e.symm
  ·by_cases e2:k=i
   ·simp only [e1,e2,if_true,if_false];exact key j (by omega)
   ·simp only [e1,e2,if_false];exact h.si j k (by omega) (by omega) hjk
 ·have key:∀j,j<i→∀b,(vs j).ownBlock=some b→v'.ownBlock≠some b:=fun j hj b h1 h2=>by
   have h3:=((h.st j hj).row.lt b h1).2
   have h4:=hv b h2
   have h5:=hs3.size
   omega
  by_cases e1:j=i
  ·by_cases e2:k=i
   ·omega
   ·simp only [e1,if_true] at hb
    simp only [e2,if_false]
    exact fun e=>key k (by omega) b e hb
  ·simp only [e1,if_false] at hb
   by_cases e2:k=i
   ·simp only [e2,if_true];exact key j (by omega) b hb
   ·simp only [e2,if_false];exact h.vi j k (by omega) (by omega) hjk b hb
 ·by_cases e:j=i
  ·simp only [e,if_true];omega
  ·simp only [e,if_false];exact h.bsp j (by omega)
 ·by_cases e:j=i
  ·simp only [e,if_true] at hb
   have h4:=hv b hb
   have h5:=hs3.size
   omega
  ·simp only [e,if_false] at hb;exact h.bv j (by omega) b hb
 ·by_cases e:j=i
  ·simp only [e,if_true] at hr
   have g:=hg.ok r hr
   have g1:RecGood w4 w.heap.size m (fun b=>if b<w.heap.size then X b else Y b) r:=g.keeps (Spared.refl (fun _=>False) w4) (fun _ _ h=>h) (fun b hb=>if_neg (by have:=hnew r hr b hb;omega))
   exact ⟨g1.plan,g1.z,g1.e,g1.m1,g1.n1,g1.n12,g1.sn,g1.own.mono hW,g1.nx.imp id (fun ⟨a,b,c,d,e,f⟩=>⟨a,b,c,d,e.mono hW,f⟩)⟩
  ·simp only [e,if_false] at hr
   have g:=h.ok j (by omega) r hr
   refine g.keeps hs (fun b hb=>?_) (fun b hb=>if_pos (g.lt hb))
   rintro (e | e)
   ·obtain ⟨_,cs,fz,hh⟩:=g.at hb
    rw [e,hP1] at hh
    cases hh
   ·exact hnS (g.lt hb) e
 ·intro j k hj hk r hr q hq b hb1 hb2
  by_cases e1:j=i
  ·simp only [e1,if_true] at hr
   by_cases e2:k=i
   ·simp only [e2,if_true] at hq
    exact ⟨by omega,hg.ap r hr q hq b hb1 hb2⟩
   ·simp only [e2,if_false] at hq
    have h1:=hnew r hr b hb1
    have h2:=hold k (by omega) q hq b hb2
    omega
  ·simp only [e1,if_false] at hr
   by_cases e2:k=i
   ·simp only [e2,if_true] at hq
    have h1:=hnew q hq b hb2
    have h2:=hold j (by omega) r hr b hb1
    omega
   ·simp only [e2,if_false] at hq
    exact h.ap j k (by omega) (by omega) r hr q hq b hb1 hb2
 ·have ctc:∀(l:List RecV) (Z:Nat→List UInt8),(∀r∈l,∀b∈r.blks,(fun b=>if b<w.heap.size then X b else Y b) b=Z b)→(∀r∈l,r.sa≠none)→l.map (RecV.ct fun b=>if b<w.heap.size then X b else Y b)=l.map (RecV.ct Z):=fun l Z hZ hsa=>List.map_congr_left fun q hq=>by
   obtain ⟨a,ha⟩:=Option.ne_none_iff_exists'.1 (hsa q hq)
   have e1:=hZ q hq a.block ((mem_blks q _).2 (.inl ⟨a,ha,rfl⟩))
   unfold RecV.ct RecV.x RecV.y
   rw [ha]
   have e1':(fun b=>if b<w.heap.size then X b else Y b) (blkNo (some a))=Z (blkNo (some a)):=e1
   rw [e1']
   cases hna:q.na with
   | none=>rfl
   | some a2 =>
    have e2:(fun b=>if b<w.heap.size then X b else Y b) (blkNo (some a2))=Z (blkNo (some a2)):=hZ q hq a2.block ((mem_blks q _).2 (.inr ⟨a2,hna,rfl⟩))
    rw [e2]
  have hsaG:∀{w:World} {W:Nat} {X:Nat→List UInt8} {r:RecV},RecGood w W m X r→r.sa≠none:=fun g=>by
   obtain ⟨g',e,_⟩:=g.sa
   rw [e];simp
  by_cases e:j=i
  ·subst e
   simp only [if_true]
   rw [ctc rs Y (fun r hr b hb=>if_neg (by have:=hnew r hr b hb;omega)) (fun r hr=>hsaG (hg.ok r hr))]
   exact hpa
  ·simp only [e,if_false]
   rw [ctc (rss j) X (fun r hr b hb=>if_pos (hold j (by omega) r hr b hb)) (fun r hr=>hsaG (h.ok j (by omega) r hr))]
   exact h.pa j (by omega)
def StoresPost (w:World) (imgs:List ByteArray) (e:Ending) (w':World):Prop :=
 (1≤imgs.length∧imgs.length≤8∧∃B sp vs rss X,e=.returned (.tuple #[.slice (some ⟨B,0,none⟩) imgs.length imgs.length,.nilIface])∧w.heap.size≤B∧Made0 w' w.heap.size imgs.length B imgs.length imgs sp vs rss X∧Below w.heap.size w w') ∨
 ((imgs.length<1∨8<imgs.length∨∃i,i<imgs.length∧∀L,¬Parses imgs.length i 10 (imgs[i]!) ⟨#[]⟩ L)∧∃ev k d,d≤5∧e=.returned (.tuple #[.slice none 0 0,ev])∧Chain w' k d ev∧Below w.heap.size w w')
set_option maxRecDepth 100000 in
set_option maxHeartbeats 4000000 in
theorem storesOf_any (imgs:List ByteArray) (a:Option Addr) (m c:Nat) (w:World) (hm:m=imgs.length) (hml:m≤maxLen) (hrd:Rd w a (imgs.map .string)) (hsz:∀i,i<m→(imgs[i]!).size≤9223372036854775807) (hT:Tab w) :
  Calls Tryz.prog 51 #[.slice a m c] w fun e w'=>StoresPost w imgs e w':=by
 obtain ⟨i0,hi,hz0,hz1,hz2⟩:=info_parts Tryz.infoP
 have HT:=hid hT
 have HM:=hid hm
 have HSZ:=hid hsz
 have HRD:=hid hrd
 have HIM:=hid (show ∀i,i<m→(imgs.map Value.string)[i]?=some (.string (imgs[i]!)) from fun i hi=>by rw [List.getElem?_map,List.getElem?_eq_getElem (by omega),getElem!_pos imgs i (by omega)];rfl)
 have hI:I64 (m:Int):=by unfold I64;unfold maxLen at hml;omega
 clear hT hm hsz hrd
 by_cases h1:m<1
 ·have h1':(m:Int)<1:=by omega
  go_enter Tryz.func51,Tryz.ntmps51
  go_wp2_with (go_at_call 77;refine (atCount_any (m:Int) _ _ 13 0 _ hI (by decide) HT.out .hit).mono ?_;rintro e w3 ⟨e3,rfl,hch3,hb3⟩;(have HCH:=hid hch3);clear hch3)
  go_ret2
  exact .inr ⟨.inl (by rw [←HM.out];exact h1),e3,13,1,by omega,rfl,HCH.out,hb3⟩
 ·have h1':¬(m:Int)<1:=by omega
  by_cases h8:8<m
  ·have h8':(8:Int)<(m:Int):=by omega
   go_enter Tryz.func51,Tryz.ntmps51
   go_wp2_with (go_at_call 77;refine (atCount_any (m:Int) _ _ 13 0 _ hI (by decide) HT.out .hit).mono ?_;rintro e w3 ⟨e3,rfl,hch3,hb3⟩;(have HCH:=hid hch3);clear hch3)
   go_ret2
   exact .inr ⟨.inr (.inl (by rw [←HM.out];exact h8)),e3,13,1,by omega,rfl,HCH.out,hb3⟩
  ·have h8':¬(8:Int)<(m:Int):=by omega
   have hm8:m≤8:=by omega
   obtain ⟨ba,oa,rfl,hba,_⟩:=HRD.out.pos (by rw [List.length_map,←HM.out];omega)
   go_enter Tryz.func51,Tryz.ntmps51
   go_wp2_with (first | (at_make;refine wpList_make_full _ rfl (.tmp 24) (.tmp 24) 92 rfl w.heap.size 97 i0 (.pointer none) 1 Tryz.underlying92 hi hz0 hz1 .i64 .i64 _ _ m rfl rfl rfl rfl (by rw [hz2];omega) (by unfold maxLen;omega) (Nat.le_refl _) ?_;intro w1 hown1 hgrow1;(have hb1:=grown_below hgrow1);(have HO1:=hid hown1);clear hown1 hgrow1)|fail)
   have HM0:=hid (show Made0 w1 w.heap.size m w.heap.size 0 imgs (fun _=>0) (fun _=>.slice none 0 0) (fun _=>[]) (fun _=>[]) from by
    obtain ⟨tl,h1,h2,h3,_⟩:=owns_split HO1.out
    exact ⟨⟨_,h1,by rw [Nat.mul_one] at h3;simpa using h3,fun j hj=>by omega⟩,fun j hj=>by omega,fun j k hj=>by omega,fun j k hj=>by omega,fun j hj=>by omega,fun j hj=>by omega,fun j hj=>by omega,fun j k hj=>by omega,fun j hj=>by omega⟩)
   clear HO1
   go_loopw [28] (fun u wr=>∃(i:Nat) (sp:Nat→Nat) (vs:Nat→Value) (rss:Nat→List RecV) (X:Nat→List UInt8),u=.int .i64 i∧i≤m∧Made0 wr w.heap.size m w.heap.size i imgs sp vs rss X∧Below w.heap.size w wr) (fun u _=>m-(intOf u).toNat)
   case atStart=>exact ⟨0,_,_,_,_,rfl,Nat.zero_le _,HM0.out,hb1⟩
   case round =>
    obtain ⟨i,sp,vs,rss,X,rfl,him,hmade,hbr⟩:=hrel
    have HMD:=hid hmade
    clear hmade
    by_cases hlt:i<m
    ·have hlt':(i:Int)<(m:Int):=by omega
     obtain ⟨_,_,hce,_,hcell⟩:=HRD.out i _ (HIM.out i hlt)
     cases hce
     have hci:wr.cell? ⟨ba,oa+i,none⟩=some (.string (imgs[i]!)):=(hbr.cell hba).trans hcell
     have HREC:=hid (irecords_any (imgs[i]!) m i wr (HSZ.out i hlt) (by omega) hm8 (HT.out.keeps hbr (Nat.le_refl _)))
     obtain ⟨im,him2⟩:∃im,im=imgs[i]! := ⟨_,rfl⟩
     rw [←him2] at hci HREC
     have HIE:=hid him2
     clear him2 hcell
     go_wp2_with fail
     refine HREC.out.mono ?_
     rintro e w2 (⟨v,rs,Y,last,rfl,hown,hgot,hle,hpar,hb2⟩|⟨hno,ev,k,d,hd,rfl,hch,hb2⟩)
     ·obtain ⟨P,hP,hPs,_⟩:=(HMD.out.below hb2).row
      have HP:=hid hP
      have HGOT:=hid hgot
      have HPAR:=hid (show Parses m i 10 (imgs[i]!) ⟨#[]⟩ (rs.map (RecV.ct Y)) from by rw [←HIE.out];exact hpar)
      have HSO:=hid hgot.so
      obtain ⟨va,vc,rfl,_⟩:=owns_rd_size hown
      obtain ⟨q,hq⟩:∃q,q=rs.length:=⟨_,rfl⟩
      rw [←hq] at hown hle ⊢
      have HQ:=hid hq
      have HOWN:=hid hown
      have hb02:=hbr.trans (hb2.mono hbr.size)
      have hWlt:w.heap.size<w2.heap.size:=cells_lt hP
      have hPi:i<P.size:=by omega
      have cB:w2.cell? ⟨w.heap.size,i,none⟩=some P[i]:=by rw [cells_at hP];simp [hPi]
      have fB:w2.frozen? ⟨w.heap.size,i,none⟩=false:=cells_fz hP
      have hneB:w.heap.size≠w2.heap.size:=by omega
      clear hgot hpar hown hq HREC hP
      go_wp2_with fail
      have hsps:Spared (fun b=>b=w.heap.size) w2 (w2.setCell ⟨w.heap.size,i,none⟩ (.pointer (some ⟨w2.heap.size,0,none⟩))):=(Spared.refl (fun b=>b=w.heap.size) w2).setCell (p:=⟨w.heap.size,i,none⟩) rfl _
      have HPs:=cells_set (k:=i) (.pointer (some ⟨w2.heap.size,0,none⟩)) HP.out
      have hszs:(w2.setCell ⟨w.heap.size,i,none⟩ (.pointer (some ⟨w2.heap.size,0,none⟩))).heap.size=w2.heap.size:=by simp [World.setCell]
      generalize w2.setCell ⟨w.heap.size,i,none⟩ (.pointer (some ⟨w2.heap.size,0,none⟩))=ws at *
      have hal:=(Below.refl ws.heap.size ws).alloc (Nat.le_refl _) (.cells #[.bool false,.slice none 0 0] 100)
      have HSb:=alloc_at ws (.cells #[.bool false,.slice none 0 0] 100)
      rw [hszs] at HSb
      have HPb:=(hal.block _ (cells_lt HPs)).trans HPs
      have hspa:Spared (fun b=>b=w.heap.size) w2 (ws.alloc (.cells #[.bool false,.slice none 0 0] 100)):=hsps.trans (Spared.ofBelow hal (Nat.le_refl _))
      have hszb:(ws.alloc (.cells #[.bool false,.slice none 0 0] 100)).heap.size=w2.heap.size+1:=by simp [hszs]
      generalize ws.alloc (.cells #[.bool false,.slice none 0 0] 100)=w3 at *
      have HSPA:=hid hspa
      have HP3:=hid HPb
      have HS3:=hid HSb
      have HSZ3:=hid hszb
      have hc3:w3.cell? ⟨w.heap.size,i,none⟩=some (.pointer (some ⟨w2.heap.size,0,none⟩)):=by rw [cells_at HPb];simp [hPi]
      have HST3:=hid (show Sto w3 w2.heap.size false (.slice none 0 0) (rs.take 0) from ⟨HSb,⟨rfl,.inl ⟨rfl,rfl⟩⟩,by rw [List.take_zero];exact fun i j _ hj=>by simp at hj,by simp⟩)
      have HOWN3:=hid (owns_spared HOWN.out hspa (fun b hb e=>by subst e;exact row_ne HOWN.out HP.out (by decide) hb))
      have hw03:w.heap.size<w3.heap.size:=by omega
      have HW3:=hid (show Below w.heap.size w w3 from hb02.trans (hspa.below w.heap.size hb02.size (fun b hb=>by omega)))
      clear hal HPs hsps hszs HPb HSb hspa cB fB hszb
      obtain ⟨wo,hwo⟩:∃wo,wo=wr:=⟨_,rfl⟩
      rw [←hwo] at HMD HGOT HOWN hb2 hbr hci
      have HWO:=hid hwo
      clear hwo
      go_wp2_with fail
      go_loopw [52] (fun u wq=>∃(k:Nat) (v':Value),u=.int .i64 k∧k≤q∧Sto wq w2.heap.size false v' (rs.take k)∧(∀b,v'.ownBlock=some b→w3.heap.size≤b)∧Spared (fun b=>b=w2.heap.size) w3 wq) (fun u _=>q-(intOf u).toNat)
      case atStart=>exact ⟨0,_,rfl,Nat.zero_le _,HST3.out,fun b hb=>by simp [Value.ownBlock] at hb,Spared.refl _ _⟩
      case round =>
       obtain ⟨k,v',rfl,hkq,hsto,hvb,hsp⟩:=hrel
       have HSTO:=hid hsto
       have HVB:=hid hvb
       have HSPQ:=hid hsp
       by_cases hlt2:k<q
       ·have hlt2':(k:Int)<(q:Int):=by omega
        have hownq:=owns_spared HOWN3.out hsp (fun b hb e=>by subst e;exact row_ne HOWN3.out HS3.out (by decide) hb)
        obtain ⟨va',vc',hve,hrdq⟩:=owns_rd_size hownq
        cases hve
        obtain ⟨vb,vo,rfl,hvb2,_⟩:=hrdq.pos (by rw [recs_length,←HQ.out];omega)
        obtain ⟨_,k0,k1,k2,k3,k4,k5,k6,k7⟩:=rec_at hrdq k (by rw [←HQ.out];exact hlt2)
        have hcq:wr.cell? ⟨w.heap.size,i,none⟩=some (.pointer (some ⟨w2.heap.size,0,none⟩)):=(World.cell?_of_block (hsp.block _ hw03 hneB)).trans hc3
        have HBq:=hid (hsp.heap HP3.out hneB)
        obtain ⟨hins,hnoN⟩:=take_ins HSO.out k (by rw [←HQ.out];exact hlt2)
        have HINS:=hid hins
        have HADD:=hid (fun w' (h:Sto w' w2.heap.size false v' (rs.take k))=>add_any w2.heap.size false v' (rs.take k) (rs[k]!) w' h (by rw [List.length_take];omega) hnoN)
        rw [hins] at HADD
        obtain ⟨r,hr⟩:∃r,r=rs[k]! := ⟨_,rfl⟩
        rw [←hr] at k0 k1 k2 k3 k4 k5 k6 k7 HADD
        unfold RecV.val at HADD
        clear hr hins hnoN hownq hrdq hsto hvb hsp HINS
        go_wp2_with fail
        have hal:=(Below.refl wr.heap.size wr).alloc (Nat.le_refl _) (.cells #[.string r.name,.int .i64 r.mode,.int .i64 r.t,.int .i64 r.l,.int .i64 r.size,.int .i64 r.epoch,.slice r.sa r.sn r.sc,.slice r.na r.nn r.nc] 127)
        have HT5':=alloc_at wr (.cells #[.string r.name,.int .i64 r.mode,.int .i64 r.t,.int .i64 r.l,.int .i64 r.size,.int .i64 r.epoch,.slice r.sa r.sn r.sc,.slice r.na r.nn r.nc] 127)
        have hsz5:wr.heap.size<(wr.alloc (.cells #[.string r.name,.int .i64 r.mode,.int .i64 r.t,.int .i64 r.l,.int .i64 r.size,.int .i64 r.epoch,.slice r.sa r.sn r.sc,.slice r.na r.nn r.nc] 127)).heap.size:=cells_lt HT5'
        have hcq5:=(hal.cell (p:=⟨w.heap.size,i,none⟩) (cells_lt HBq.out)).trans hcq
        have HBq5:=hid ((hal.block _ (cells_lt HBq.out)).trans HBq.out)
        have HSTO5:=hid (HSTO.out.keeps (Spared.ofBelow (own:=fun _=>False) hal (Nat.le_refl _)) (fun h=>h) (fun _ _ h=>h))
        have HV5:=hid (show ∀b,v'.ownBlock=some b→b<wr.heap.size from fun b hb=>((HSTO.out.row).lt b hb).2)
        have HSP5:=hid (show Spared (fun b=>b=w2.heap.size) w3 _ from HSPQ.out.trans (Spared.ofBelow hal (Nat.le_refl _)))
        generalize wr.alloc (.cells #[.string r.name,.int .i64 r.mode,.int .i64 r.t,.int .i64 r.l,.int .i64 r.size,.int .i64 r.epoch,.slice r.sa r.sn r.sc,.slice r.na r.nn r.nc] 127)=w5 at *
        have t0:w5.cell? ⟨wr.heap.size,0,none⟩=some (.string r.name):=by rw [cells_at HT5'];rfl
        have t1:w5.cell? ⟨wr.heap.size,1,none⟩=some (.int .i64 r.mode):=by rw [cells_at HT5'];rfl
        have t2:w5.cell? ⟨wr.heap.size,2,none⟩=some (.int .i64 r.t):=by rw [cells_at HT5'];rfl
        have t3:w5.cell? ⟨wr.heap.size,3,none⟩=some (.int .i64 r.l):=by rw [cells_at HT5'];rfl
        have t4:w5.cell? ⟨wr.heap.size,4,none⟩=some (.int .i64 r.size):=by rw [cells_at HT5'];rfl
        have t5:w5.cell? ⟨wr.heap.size,5,none⟩=some (.int .i64 r.epoch):=by rw [cells_at HT5'];rfl
        have t6:w5.cell? ⟨wr.heap.size,6,none⟩=some (.slice r.sa r.sn r.sc):=by rw [cells_at HT5'];rfl
        have t7:w5.cell? ⟨wr.heap.size,7,none⟩=some (.slice r.na r.nn r.nc):=by rw [cells_at HT5'];rfl
        have HT5:=hid HT5'
        have hWS:w2.heap.size<wr.heap.size:=cells_lt HSTO.out.hp
        have DD:=hid (show ∀w':World,Spared (fun b=>b=w2.heap.size∨v'.ownBlock=some b) w5 w'→w'.cell? ⟨w.heap.size,i,none⟩=some (.pointer (some ⟨w2.heap.size,0,none⟩))∧w'.cell? ⟨wr.heap.size,0,none⟩=some (.string r.name)∧w'.cell? ⟨wr.heap.size,1,none⟩=some (.int .i64 r.mode)∧w'.cell? ⟨wr.heap.size,2,none⟩=some (.int .i64 r.t)∧w'.cell? ⟨wr.heap.size,3,none⟩=some (.int .i64 r.l)∧w'.cell? ⟨wr.heap.size,4,none⟩=some (.int .i64 r.size)∧w'.cell? ⟨wr.heap.size,5,none⟩=some (.int .i64 r.epoch)∧w'.cell? ⟨wr.heap.size,6,none⟩=some (.slice r.sa r.sn r.sc)∧w'.cell? ⟨wr.heap.size,7,none⟩=some (.slice r.na r.nn r.nc) from fun w' hs=>by
         have hB:=hs.block w.heap.size (cells_lt HBq5.out) (by
          rintro (e | e)
          ·exact hneB e
          ·exact row_ne HSTO5.out.row HBq5.out (by decide) e)
         have hT:=hs.block wr.heap.size hsz5 (by
          rintro (e | e)
          ·omega
          ·have:=HV5.out _ e;omega)
         exact ⟨(World.cell?_of_block hB).trans hcq5,(World.cell?_of_block hT).trans t0,(World.cell?_of_block hT).trans t1,(World.cell?_of_block hT).trans t2,(World.cell?_of_block hT).trans t3,(World.cell?_of_block hT).trans t4,(World.cell?_of_block hT).trans t5,(World.cell?_of_block hT).trans t6,(World.cell?_of_block hT).trans t7⟩)
        clear hal HT5' k0 k1 k2 k3 k4 k5 k6 k7 hcq
        go_region_held3 (fun w'=>w'.cell? ⟨w.heap.size,i,none⟩=some (.pointer (some ⟨w2.heap.size,0,none⟩))∧w'.cell? ⟨wr.heap.size,0,none⟩=some (.string r.name)∧w'.cell? ⟨wr.heap.size,1,none⟩=some (.int .i64 r.mode)∧w'.cell? ⟨wr.heap.size,2,none⟩=some (.int .i64 r.t)∧w'.cell? ⟨wr.heap.size,3,none⟩=some (.int .i64 r.l)∧w'.cell? ⟨wr.heap.size,4,none⟩=some (.int .i64 r.size)∧w'.cell? ⟨wr.heap.size,5,none⟩=some (.int .i64 r.epoch)∧w'.cell? ⟨wr.heap.size,6,none⟩=some (.slice r.sa r.sn r.sc)∧w'.cell? ⟨wr.heap.size,7,none⟩=some (.slice r.na r.nn r.nc)) (first | exact ⟨hcq5,t0,t1,t2,t3,t4,t5,t6,t7⟩|exact D6.out | go_keep)
         (first | (go_at_call 80;refine (HADD.out _ HSTO5.out.drew).mono ?_;rintro e w6 ⟨rfl,v'',hst6,hv6,hsp6⟩;(have HS56:=hid (show Spared (fun b=>b=w2.heap.size∨v'.ownBlock=some b) w5 w6 from ((Spared.refl (fun b=>b=w2.heap.size∨v'.ownBlock=some b) w5).drew).trans hsp6));(have D6:=hid (DD.out w6 HS56.out));(have HST6:=hid hst6);(have HV6:=hid hv6);clear hst6 hv6 hsp6))
        go_wp2_with fail
        go_roundw
        case rel =>
         refine ⟨k+1,v'',by go_num,hlt2,HST6.out,fun b hb=>?_,?_⟩
         ·rcases HV6.out with e | ⟨b',e,hge⟩
          ·exact HVB.out b (by rw [←e];exact hb)
          ·rw [hb] at e
           cases e
           have h1:=HSPQ.out.size
           simp at hge
           omega
         ·refine Spared.monoOld ((HSP5.out.mono fun _ h=>.inl h).trans HS56.out) (fun b hb h=>?_)
          rcases h with h | h
          ·exact h
          ·have:=HVB.out b h
           omega
        case measure=>simp [intOf];omega
       ·have hkk:k=q:=by omega
        subst hkk
        have hstq:=HSTO.out
        rw [HQ.out,List.take_length] at hstq
        have hPo:wo.heap[w.heap.size]?=some (.cells P 97):=by
         obtain ⟨P0,hP0,_⟩:=HMD.out.row
         have:=(hb2.block _ (cells_lt hP0)).trans hP0
         rw [HP.out] at this
         cases this
         exact hP0
        have hgotq:Got wr wo.heap.size m rs Y last:=(HGOT.out.keeps HSPA.out (fun r hr b hb e=>by
         obtain ⟨_,cs,fz,hh⟩:=(HGOT.out.ok r hr).at hb
         rw [e,HP.out] at hh
         cases hh)).keeps HSPQ.out (fun r hr b hb e=>by
          have:=(HGOT.out.ok r hr).lt hb
          omega)
        have HMORE:=hid (HMD.out.more hbr.size hlt w2.heap.size v' rs ((Spared.ofBelow hb2 (Nat.le_refl _)).trans HSPA.out) ⟨P,hPo,HP3.out⟩ HSPQ.out hb2.size hstq HVB.out hgotq HPAR.out)
        clear hgotq hPo hstq
        have HBQ:=hid (show Below w.heap.size w wr from HW3.out.trans (HSPQ.out.below w.heap.size HW3.out.size (fun b hb=>by omega)))
        go_wp2_with fail
        go_roundw
        case rel=>exact ⟨i+1,_,_,_,_,by go_num,hlt,HMORE.out,HBQ.out⟩
        case measure=>simp [intOf];omega
     ·have HNO:=hid hno
      have HCH:=hid hch
      obtain ⟨te,ve,rfl⟩:=hch.shape
      have hIi:I64 (i:Int):=by unfold I64;omega
      have hb02:=hbr.trans (hb2.mono hbr.size)
      have HT2:=hid (HT.out.keeps hb02 (Nat.le_refl _))
      clear hno hch HREC
      go_wp2_with (go_at_call 79;refine (atStore_any (i:Int) _ k d _ hIi HT2.out HCH.out).mono ?_;rintro e w4 ⟨e4,rfl,hch4,hb4⟩;(have HCH4:=hid hch4);clear hch4)
      go_ret2
      exact .inr ⟨.inr (.inr ⟨i,by rw [←HM.out];exact hlt,fun L hL=>HNO.out L (by rw [HIE.out,HM.out];exact hL)⟩),e4,k,d+1,by omega,rfl,HCH4.out,hb02.trans (hb4.mono hb02.size)⟩
    ·have hii:i=m:=by omega
     subst hii
     go_wp2_with fail
     go_ret2
     refine .inl ⟨by rw [←HM.out];omega,by rw [←HM.out];omega,w.heap.size,sp,vs,rss,X,?_,Nat.le_refl _,?_,hbr⟩
     ·rw [←HM.out];rfl
     ·rw [←HM.out];exact HMD.out
def Told (w:World) (k:Int) (ev:Value):Prop:=∃b te ve,ev=.iface 149 (.pointer (some ⟨b,0,none⟩))∧w.heap[b]?=some (.cells #[.int .i64 k,.iface te ve] 151)
theorem Told.keeps {w w':World} {k:Int} {ev:Value} (h:Told w k ev) (hb:Below w.heap.size w w'):Told w' k ev:=by
 obtain ⟨b,te,ve,h1,h2⟩:=h
 exact ⟨b,te,ve,h1,(hb.block b (cells_lt h2)).trans h2⟩
set_option maxRecDepth 100000 in
set_option maxHeartbeats 1000000 in
theorem as_any (k:Int) (te:TypeId) (ve:Value) (w:World) :
  Calls Tryz.prog 54 #[.int .i64 k,.iface te ve] w fun e w'=>∃ev,e=.returned ev∧Told w' k ev∧Below w.heap.size w w':=by
 have HB:=hid ((Below.refl w.heap.size w).alloc (Nat.le_refl _) (.cells #[.int .i64 k,.iface te ve] 151))
 have HH:=hid (alloc_at w (.cells #[.int .i64 k,.iface te ve] 151))
 go_enter Tryz.func54,Tryz.ntmps54
 go_wp2_with fail
 go_ret
 exact ⟨_,rfl,⟨w.heap.size,te,ve,rfl,HH.out⟩,HB.out⟩
end Go.Proofs.YtcegdgmbponapabGreatDoor