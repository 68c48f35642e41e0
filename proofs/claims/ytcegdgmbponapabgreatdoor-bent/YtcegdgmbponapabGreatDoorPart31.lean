/-
  cofferkeep.name and cofferkeep.size.
  A region that draws its order: operations that only tell a value, a call with all of these, its answer laid down.
  cofferkeep.do: what it calls.
  cofferkeep.do: what else it calls.
-/
import Derived.Test.YtcegdgmbponapabGreatDoorPart30
namespace Go.Proofs.YtcegdgmbponapabGreatDoor
open Go.RowKit
attribute [local go_sem ↓] Go.wp_at_zero Go.wp_at_succ
def nameN:Nat→ByteArray
 | 0=>⟨#[97]⟩
 | 1=>⟨#[97,98]⟩
 | 2=>⟨#[98]⟩
 | _=>⟨#[122,122,122,122,122,122,122,122,122,122,122,122]⟩
def nameB (c:Int):ByteArray:=nameN (pickN c 4)
theorem nameN_size (k:Nat):1≤(nameN k).size∧(nameN k).size≤12:=by
 unfold nameN
 split<;>decide
set_option maxRecDepth 100000 in
set_option maxHeartbeats 1000000 in
theorem name_any (c:Int) (w:World) (hc:I64 c) :
  Calls Tryz.prog 28 #[.int .i64 c] w fun e w'=>e=.returned (.string (nameB c))∧Below w.heap.size w w':=by
 have hk:pickN c 4<4:=pickN_lt c 4 (by decide)
 have HP:=hid (fun w'=>pick_any c 4 w' hc.1 hc.2 (by decide) (by decide))
 unfold nameB
 generalize pickN c 4=k at *
 have hba:=(Below.refl w.heap.size w).alloc (Nat.le_refl _) (.cells #[.string ⟨#[97]⟩,.string ⟨#[97,98]⟩,.string ⟨#[98]⟩,.string ⟨#[122,122,122,122,122,122,122,122,122,122,122,122]⟩] 101)
 clear hc
 go_enter Tryz.func28,Tryz.ntmps28
 go_wp2_with fail
 refine (HP.out _).mono ?_
 rintro e w1 ⟨rfl,rfl⟩
 have hk':(k:Int)<4:=by omega
 go_wp2_with fail
 go_ret
 refine ⟨?_,hba⟩
 have h4:k=0∨k=1∨k=2∨k=3:=by omega
 rcases h4 with rfl | rfl | rfl | rfl<;>rfl
theorem Tryz.cellsObj:(Tryz.prog.info? 65).map (fun i=>i.size)=some 6:=by kernel_rfl
def sizeV (rs:List RecV) (nm:ByteArray):Value :=
 if hasName rs nm=true then .tuple #[.agg #[.string (recOf rs nm).name,.int .i64 (recOf rs nm).mode,.int .i64 (recOf rs nm).t,.int .i64 (recOf rs nm).l,.int .i64 (recOf rs nm).size,.int .i64 (recOf rs nm).epoch],.bool true]
 else .tuple #[.agg #[.string ByteArray.empty,.int .i64 0,.int .i64 0,.int .i64 0,.int .i64 0,.int .i64 0],.bool false]
set_option maxRecDepth 100000 in
set_option maxHeartbeats 1000000 in
theorem size_of (C:Nat) (nm:ByteArray) (rs:List RecV) (w:World) (hso:Sorted rs) (hle:rs.length≤10)
  (ho:∀w1,Below w.heap.size w w1→Calls Tryz.prog 37 #[.pointer (some ⟨C,0,none⟩)] w1 fun e w'=>∃ov,e=.returned ov∧w'.ownsRow w1.heap.size 65 6 ov rs.length (objs rs)∧Below w1.heap.size w1 w') :
  Calls Tryz.prog 30 #[.pointer (some ⟨C,0,none⟩),.string nm] w fun e w'=>e=.returned (sizeV rs nm)∧Below w.heap.size w w':=by
 have hba:=(Below.refl w.heap.size w).alloc (Nat.le_refl _) (.cells #[.string ⟨#[]⟩,.int .i64 0,.int .i64 0,.int .i64 0,.int .i64 0,.int .i64 0] 65)
 have HO:=hid (ho _ hba)
 have HSO:=hid hso
 obtain ⟨m,hm⟩:∃m,m=rs.length:=⟨_,rfl⟩
 rw [←hm] at HO hle
 have HM:=hid hm
 have FOUND:=hid (show ∀k,k<m→(rs[k]!).name=nm→sizeV rs nm=.tuple #[.agg #[.string (rs[k]!).name,.int .i64 (rs[k]!).mode,.int .i64 (rs[k]!).t,.int .i64 (rs[k]!).l,.int .i64 (rs[k]!).size,.int .i64 (rs[k]!).epoch],.bool true] from fun k hk e=>by
  have hmem:rs[k]! ∈ rs:=by rw [getElem!_pos rs k (by omega)];exact List.getElem_mem _
  obtain ⟨a,b⟩:=look_of hso hmem e
  unfold sizeV
  rw [if_pos a,b])
 have NONE:=hid (show (∀k,k<m→(rs[k]!).name≠nm)→sizeV rs nm=.tuple #[.agg #[.string ByteArray.empty,.int .i64 0,.int .i64 0,.int .i64 0,.int .i64 0,.int .i64 0],.bool false] from fun h=>by
  unfold sizeV
  rw [if_neg]
  intro hy
  obtain ⟨r,hr,e⟩:=(hasName_iff hso nm).1 hy
  obtain ⟨k,hk,rfl⟩:=List.getElem_of_mem hr
  exact h k (by omega) (by rw [getElem!_pos rs k hk];exact e))
 generalize sizeV rs nm=sv at *
 clear ho hso hm
 go_enter Tryz.func30,Tryz.ntmps30
 go_wp2_with fail
 refine HO.out.mono ?_
 rintro e w2 ⟨ov,rfl,hown,hb2⟩
 have hb02:=hba.trans (hb2.mono hba.size)
 obtain ⟨oa,oc,rfl,hrd⟩:=owns_rd_size hown
 have HRD:=hid hrd
 have hT:w2.heap[w.heap.size]?=some (.cells #[.string ⟨#[]⟩,.int .i64 0,.int .i64 0,.int .i64 0,.int .i64 0,.int .i64 0] 65):=(hb2.block _ (by simp)).trans (alloc_at _ _)
 have HT:=hid hT
 clear hown hrd hT
 go_wp2_with fail
 go_loopw [7] (fun u wr=>∃k:Nat,k≤m∧u=.int .i64 k∧(∀j,j<k→(rs[j]!).name≠nm)∧wr=w2) (fun u _=>m-(intOf u).toNat)
 case atStart=>exact ⟨0,Nat.zero_le _,rfl,fun j hj=>by omega,rfl⟩
 case round =>
  obtain ⟨k,hk,rfl,hbef,rfl⟩:=hrel
  have HBEF:=hid hbef
  clear hbef
  by_cases hkm:k<m
  ·have hkm':(k:Int)<(m:Int):=by omega
   obtain ⟨b,o,rfl,hblt,_⟩:=HRD.out.pos (by rw [show (objs rs).length=rs.length*6 by rw [objs_obs,obs_length,List.length_map],←HM.out];omega)
   have cell:∀j,j<6→wr.cell? ⟨b,o+(k*6+j),none⟩=(rs[k]!).obj[j]?:=fun j hj=>by
    have e:=objs_at rs k j (by rw [←HM.out];exact hkm) hj
    obtain ⟨v,hv⟩:∃v,(rs[k]!).obj[j]?=some v:=⟨_,List.getElem?_eq_getElem (by simp [RecV.obj];exact hj)⟩
    obtain ⟨b',o',e1,_,e2⟩:=HRD.out (k*6+j) v (e.trans hv)
    cases e1
    rw [e2,hv]
   have k0:wr.cell? ⟨b,o+k*6,none⟩=some (.string (rs[k]!).name):=cell 0 (by decide)
   have k1:wr.cell? ⟨b,o+k*6+1,none⟩=some (.int .i64 (rs[k]!).mode):=by rw [Nat.add_assoc];exact cell 1 (by decide)
   have k2:wr.cell? ⟨b,o+k*6+2,none⟩=some (.int .i64 (rs[k]!).t):=by rw [Nat.add_assoc];exact cell 2 (by decide)
   have k3:wr.cell? ⟨b,o+k*6+3,none⟩=some (.int .i64 (rs[k]!).l):=by rw [Nat.add_assoc];exact cell 3 (by decide)
   have k4:wr.cell? ⟨b,o+k*6+4,none⟩=some (.int .i64 (rs[k]!).size):=by rw [Nat.add_assoc];exact cell 4 (by decide)
   have k5:wr.cell? ⟨b,o+k*6+5,none⟩=some (.int .i64 (rs[k]!).epoch):=by rw [Nat.add_assoc];exact cell 5 (by decide)
   have HF:=hid (FOUND.out k hkm)
   have HN:=hid (show (rs[k]!).name≠nm→∀j,j<k+1→(rs[j]!).name≠nm from fun h j hj=>by
    rcases Nat.lt_or_eq_of_le (Nat.lt_succ_iff.1 hj) with h' | rfl
    ·exact HBEF.out j h'
    ·exact h)
   generalize (rs[k]!).name=nk at *
   generalize (rs[k]!).mode=mk at *
   generalize (rs[k]!).t=tk at *
   generalize (rs[k]!).l=lk at *
   generalize (rs[k]!).size=zk at *
   generalize (rs[k]!).epoch=ek at *
   clear cell FOUND NONE HBEF HO
   by_cases hnk:nk=nm
   ·subst hnk
    have HF':=hid (HF.out rfl)
    clear HF HN
    have HSET:=hid (setRow_heap wr w.heap.size _ #[.string nk,.int .i64 mk,.int .i64 tk,.int .i64 lk,.int .i64 zk,.int .i64 ek] _ _ HT.out)
    have HBS:=hid (show Below w.heap.size w (wr.setRow w.heap.size #[.string nk,.int .i64 mk,.int .i64 tk,.int .i64 lk,.int .i64 zk,.int .i64 ek]) from hb02.trans ((setRow_spared wr w.heap.size _).below w.heap.size hb02.size (fun _ h=>Nat.le_of_eq h.symm)))
    go_wp2_with (first | (refine wpList_store_rec rfl 65 (.tmp 4) (.tmp 26) rfl w.heap.size 0 #[.string nk,.int .i64 mk,.int .i64 tk,.int .i64 lk,.int .i64 zk,.int .i64 ek] rfl rfl 65 _ HT.out Tryz.cellsObj (by simp) (by simp [Value.oneCell']) ?_;(change wpList _ _ _ _ _ (wr.setRow w.heap.size #[.string nk,.int .i64 mk,.int .i64 tk,.int .i64 lk,.int .i64 zk,.int .i64 ek]));generalize wr.setRow w.heap.size #[.string nk,.int .i64 mk,.int .i64 tk,.int .i64 lk,.int .i64 zk,.int .i64 ek]=wd at *)|fail)
    have d0:wd.cell? ⟨w.heap.size,0,none⟩=some (.string nk):=by rw [cells_at HSET.out];rfl
    have d1:wd.cell? ⟨w.heap.size,1,none⟩=some (.int .i64 mk):=by rw [cells_at HSET.out];rfl
    have d2:wd.cell? ⟨w.heap.size,2,none⟩=some (.int .i64 tk):=by rw [cells_at HSET.out];rfl
    have d3:wd.cell? ⟨w.heap.size,3,none⟩=some (.int .i64 lk):=by rw [cells_at HSET.out];rfl
    have d4:wd.cell? ⟨w.heap.size,4,none⟩=some (.int .i64 zk):=by rw [cells_at HSET.out];rfl
    have d5:wd.cell? ⟨w.heap.size,5,none⟩=some (.int .i64 ek):=by rw [cells_at HSET.out];rfl
    refine bodyPost_ret (v:=.tuple #[.agg #[.string nk,.int .i64 mk,.int .i64 tk,.int .i64 lk,.int .i64 zk,.int .i64 ek],.bool true]) ?_ rfl ⟨by rw [HF'.out],HBS.out⟩
    simp [results,Tryz.results30,go_sem,d0,d1,d2,d3,d4,d5]
   ·clear HF
    have HNK:=hid hnk
    have hne:(nk.toList == nm.toList)=false:=by rw [bytes_beq];simpa using hnk
    clear hnk
    go_wp2_with fail
    go_roundw
    case rel=>exact ⟨k+1,by omega,by go_num,HN.out HNK.out,trivial⟩
    case measure=>simp [intOf];omega
  ·have hkk:k=m:=by omega
   subst hkk
   have HE:=hid (NONE.out HBEF.out)
   clear FOUND NONE HBEF HO
   have d0:wr.cell? ⟨w.heap.size,0,none⟩=some (.string ⟨#[]⟩):=by rw [cells_at HT.out];rfl
   have d1:wr.cell? ⟨w.heap.size,1,none⟩=some (.int .i64 0):=by rw [cells_at HT.out];rfl
   have d2:wr.cell? ⟨w.heap.size,2,none⟩=some (.int .i64 0):=by rw [cells_at HT.out];rfl
   have d3:wr.cell? ⟨w.heap.size,3,none⟩=some (.int .i64 0):=by rw [cells_at HT.out];rfl
   have d4:wr.cell? ⟨w.heap.size,4,none⟩=some (.int .i64 0):=by rw [cells_at HT.out];rfl
   have d5:wr.cell? ⟨w.heap.size,5,none⟩=some (.int .i64 0):=by rw [cells_at HT.out];rfl
   go_wp2_with (first | (refine wpList_store_same rfl 65 (.tmp 4) (.tmp 27) rfl w.heap.size #[.string ⟨#[]⟩,.int .i64 0,.int .i64 0,.int .i64 0,.int .i64 0,.int .i64 0] rfl rfl 65 HT.out Tryz.cellsObj (by simp [Value.oneCell']) ?_)|fail)
   refine bodyPost_ret (v:=.tuple #[.agg #[.string ⟨#[]⟩,.int .i64 0,.int .i64 0,.int .i64 0,.int .i64 0,.int .i64 0],.bool false]) ?_ rfl ⟨by rw [HE.out];rfl,hb02⟩
   simp [results,Tryz.results30,go_sem,d0,d1,d2,d3,d4,d5]
end Go.Proofs.YtcegdgmbponapabGreatDoor
namespace Go.Proofs.YtcegdgmbponapabGreatDoor
open Go.RowKit
section
variable {P:Program} {ops:Array Oper} {Q:Exit→Act→World→Prop}
def StepCall (P:Program) (slot:Nat→Nat) (vals:Nat→Value→Prop) (m:Nat) (Post:Value→World→Prop) (O:Nat→Prop) (fixed:List (Nat × Value)) (reads:Nat→List Nat) (N:Nat) (w0:World):Nat→List Oper→Prop
 | _,[]=>True
 | i,o :: rest=>(∀a w,a.tmps.size=N→Spared O w0 w→(∀x∈fixed,(reads i).contains x.1=true→a.tmps.getD x.1 undef=x.2)→(∀e∈o.after,Region.binds .any e=true→e.on<m→vals e.on (a.tmps.getD (slot e.on) undef)) →
   (i<m→StepOk P o a w fun v w'=>vals i v∧Spared (fun _=>False) w w')∧(i=m→Spared (fun _=>False) w0 w→StepOk P o a w fun v w'=>Post v w'∧Spared O w w')∧(m<i→(execOp a.eval o).run P w=.ok (.value (a.tmps.getD (slot m) undef)) w))∧StepCall P slot vals m Post O fixed reads N w0 (i+1) rest
theorem StepCall.own {slot:Nat→Nat} {vals:Nat→Value→Prop} {m:Nat} {Post:Value→World→Prop} {O:Nat→Prop} {fixed:List (Nat × Value)} {reads:Nat→List Nat} {N:Nat} {w0:World} (hsz:ops.size=m+2) (hsl:∀i,i<m+2→slot i<N) (hw:waits ops (m+1) m=true):∀(l:List Oper) (k:Nat),(∀i o,l[i]?=some o→ops[k+i]?=some o)→StepCall P slot vals m Post O fixed reads N w0 k l →
  StepOwn P ops slot (fun j a w=>(j<m→vals j (a.tmps.getD (slot j) undef))∧(m≤j→Post (a.tmps.getD (slot j) undef) w)) (fun j w=>j=m→Spared (fun _=>False) w0 w) (fun i b=>i=m∧O b) fixed reads N w0 k l:=by
 intro l
 induction l with
 | nil=>intro k _ _;trivial
 | cons o l ih =>
  intro k hat h
  refine ⟨fun a w hN hs hf hd hu=>?_,ih (k+1) (fun i o ho=>by rw [show k+1+i=k+(i+1) by omega];exact hat (i+1) o (by simpa using ho)) h.2⟩
  have hko:=hat 0 o (by simp)
  have hk:k<m+2:=by rw [←hsz];exact (Array.getElem?_eq_some_iff.1 hko).1
  have hsO:Spared O w0 w:=hs.mono fun b ⟨_,_,hb⟩=>hb
  obtain ⟨h1,h2,h3⟩:=h.1 a w hN hsO hf (fun e he hb hlt=>(hd e he hb).1.1 hlt)
  have hlt:slot k<a.tmps.size:=by rw [hN];exact hsl k hk
  rcases Nat.lt_trichotomy k m with hkm | hkm | hkm
  ·refine (h1 hkm).weaken fun v w' hp=>⟨hp.2.mono fun _ h=>h.elim,fun _=>?_,fun h=>by omega⟩
   rw [put_eq _ _ _ hlt]
   exact hp.1
  ·subst hkm
   refine (h2 rfl (hu rfl)).weaken fun v w' hp=>⟨hp.2.mono fun _ h=>⟨rfl,h⟩,fun h=>by omega,fun _=>?_⟩
   rw [put_eq _ _ _ hlt]
   exact hp.1
  ·have hk1:k=m+1:=by omega
   subst hk1
   rw [Nat.add_zero] at hko
   have hw':=hw
   unfold waits at hw'
   rw [hko] at hw'
   simp only [Array.any_eq_true',Bool.and_eq_true,beq_iff_eq] at hw'
   obtain ⟨e,he,heo,hb⟩:=hw'
   have hr:=(hd e he hb).1.2
   rw [heo] at hr
   refine .inl ⟨_,w,h3 hkm,Spared.refl _ _,fun h=>by omega,fun _=>?_⟩
   rw [put_eq _ _ _ hlt]
   exact hr (Nat.le_refl _)
theorem wp_region_call {id:Nat} {a:Act} {w:World} (hm:P.follows .mixedOrders=true) (slot:Nat→Nat) (vals:Nat→Value→Prop) (m:Nat) (Post:Value→World→Prop) (O:Nat→Prop) (fixed:List (Nat × Value)) (N:Nat) (reads:Nat→List Nat)
  (hok:ownOk ops slot N reads=true) (hsz:ops.size=m+2) (hw:waits ops (m+1) m=true)
  (ha:a.defers=[]) (hN:a.tmps.size=N) (hfx:∀p∈fixed,a.tmps.getD p.1 undef=p.2)
  (hPost:∀v w1 w2,Post v w1→Spared (fun _=>False) w1 w2→Post v w2)
  (hstep:StepCall P slot vals m Post O fixed reads N { w with drawn:=w.drawn+1 } 0 ops.toList)
  (hend:∀a w',a.defers=[]→a.tmps.size=N→Spared O { w with drawn:=w.drawn+1 } w'→Post (a.tmps.getD (slot (m+1)) undef) w'→Q .normal a w') :
  (Code.region id ops true).wp P Q a w:=by
 have hsl:∀i,i<m+2→slot i<N:=fun i hi=>by
  have h1:=hok
  unfold ownOk at h1
  rw [List.all_eq_true] at h1
  have h2:=h1 i (List.mem_range.2 (by omega))
  have h3:ops[i]?=some ops[i]:=by simp [show i<ops.size by omega]
  rw [h3] at h2
  simp only [Bool.and_eq_true,decide_eq_true_eq] at h2
  exact h2.1.1.1.1.2
 refine wp_region_own hm slot (fun j a w=>(j<m→vals j (a.tmps.getD (slot j) undef))∧(m≤j→Post (a.tmps.getD (slot j) undef) w)) (fun j w'=>j=m→Spared (fun _=>False) { w with drawn:=w.drawn+1 } w') (fun i b=>i=m∧O b) fixed N reads hok ha hN hfx (fun _ _ _=>Spared.refl _ _) ?_ ?_ (hstep.own hsz hsl hw _ 0 (fun i o ho=>by rw [Nat.zero_add];simpa using ho)) ?_
 ·intro i j ac v w1 w2 hj hij hwt _ hr hs hne
  rw [put_ne _ _ _ _ hne]
  refine ⟨hr.1,fun hmj=>?_⟩
  have him:i≠m:=by
   rintro rfl
   have hj1:j=i+1:=by omega
   subst hj1
   unfold waits2 at hwt
   rw [hw] at hwt
   cases hwt
  exact hPost _ _ _ (hr.2 hmj) (hs.mono fun b hb=>him hb.1)
 ·intro i j w1 w2 hij _ hu hs hjm
  exact (hu hjm).trans (hs.mono fun b hb=>hij (hb.1.trans hjm.symm))
 ·intro a1 w' hdf hsz' hs _ hr
  exact hend a1 w' hdf hsz' (hs.mono fun b ⟨_,_,hb⟩=>hb) ((hr (m+1) (by omega)).2 (by omega))
end
end Go.Proofs.YtcegdgmbponapabGreatDoor
namespace Go.Proofs.YtcegdgmbponapabGreatDoor
open Go.RowKit
attribute [local go_sem ↓] Go.wp_at_zero Go.wp_at_succ
structure StepV where
 kind:Int
 a:Int
 b:Int
 c:Int
 d:Int
 v:ByteArray
 tp:ByteArray
 m:Int
 t:Int
 l:Int
def StepV.cells (s:StepV):Array Value:=#[.int .i64 s.kind,.int .i64 s.a,.int .i64 s.b,.int .i64 s.c,.int .i64 s.d,.string s.v,.string s.tp,.int .i64 s.m,.int .i64 s.t,.int .i64 s.l]
def StepV.val (s:StepV):Value:=.agg #[.int .i64 s.kind,.int .i64 s.a,.int .i64 s.b,.int .i64 s.c,.int .i64 s.d,.string s.v,.string s.tp,.int .i64 s.m,.int .i64 s.t,.int .i64 s.l]
structure StepV.Ok (s:StepV):Prop where
 kind:I64 s.kind
 a:I64 s.a
 b:I64 s.b
 c:I64 s.c
 d:I64 s.d
 v:s.v.size≤maxLen
 tp:s.tp.size≤maxLen
 m:I64 s.m
 t:I64 s.t
 l:I64 s.l
def dpS (i:Nat):Nat:=if i=13 then 6 else i+23
def dpV (C W:Nat) (a:Int) (nm vs tp:ByteArray) (pm pt pl:Nat):Nat→Value→Prop
 | 0,v=>v=.pointer (some ⟨C,0,none⟩)
 | 1,v=>v=.pointer (some ⟨W,1,none⟩)
 | 2,v=>v=.int .i64 a
 | 3,v=>v=.string nm
 | 4,v=>v=.string vs
 | 5,v=>v=.agg #[.int .i64 pm,.int .i64 pt,.int .i64 pl]
 | 6,v=>v=.pointer (some ⟨W,6,none⟩)
 | 7,v=>v=.string tp
 | 8,v=>v=.agg #[.int .i64 pm,.int .i64 pt,.int .i64 pl]
 | 9,v=>v=.string vs
 | 10,v=>v=.int .i64 vs.size
 | 11,v=>∃s:ByteArray,v=.string s∧s.size=Cof.tsize pm pt*Cof.ngroups pm pt pl vs.size
 | _,_=>True
set_option maxRecDepth 100000 in
set_option maxHeartbeats 2000000 in
theorem do_put (C n:Nat) (st:StepV) (w:World) (hst:st.Ok) (hk:pickN st.kind 7=0) (h1:1≤n) (h8:n≤8) (O:Nat→Prop) (hO:∀b,O b→b<w.heap.size) (Post:Value→World→Prop) (hPost:∀v w1 w2,Post v w1→Spared (fun _=>False) w1 w2→Post v w2)
  (hc:∀w1 tape,Below w.heap.size w w1→tape.size=Cof.tsize (pMode st.m) (pT st.t n)*Cof.ngroups (pMode st.m) (pT st.t n) (pL st.m st.t st.l n) (st.v.extract 0 60).size→Calls Tryz.prog 16 #[.pointer (some ⟨C,0,none⟩),.string (nameB st.a),.string (st.v.extract 0 60),.agg #[.int .i64 (pMode st.m),.int .i64 (pT st.t n),.int .i64 (pL st.m st.t st.l n)],.string tape] w1 fun e w'=>∃v,e=.returned v∧Post v w'∧Spared O w1 w') :
  Calls Tryz.prog 7 #[.pointer (some ⟨C,0,none⟩),.int .i64 n,st.val] w fun e w'=>∃v,e=.returned v∧Post v w':=by
 have hpl:=plan_is st.m st.t st.l n h1 h8
 have HPI:=hid (fun w'=>pick_any st.kind 7 w' hst.kind.1 hst.kind.2 (by decide) (by decide))
 rw [hk] at HPI
 have HPL:=hid (fun w'=>plan_any st.m st.t st.l n w' hst.m hst.t hst.l h1 h8)
 have HSH:=hid (fun w'=>short_any st.v 60 w' (by decide))
 have HNA:=hid (fun w'=>name_any st.a w' hst.a)
 have hvz:(st.v.extract 0 60).size≤60:=by simp;omega
 have HTA:=hid (fun w'=>tape_any st.tp (pMode st.m) (pT st.t n) (pL st.m st.t st.l n) n (st.v.extract 0 60).size w' hpl hvz hst.tp)
 have HC:=hid hc
 have HPO:=hid hPost
 have HOO:=hid hO
 obtain ⟨kd,a,b,c,d,v,tp,m,t,l⟩:=st
 simp only [StepV.val] at *
 generalize pMode m=pm at *
 generalize pT t n=pt at *
 generalize pL m t l n=pl at *
 generalize v.extract 0 60=vs at *
 generalize nameB a=nm at *
 clear hst hk hc hPost hO hpl
 go_enter Tryz.func7,Tryz.ntmps7
 go_wp2_with (first | (go_at_call 5;refine (HPI.out _).mono ?_;rintro e w9 ⟨rfl,rfl⟩))
 refine (HPL.out _).mono ?_
 rintro e w2 ⟨rfl,hb2⟩
 have HB2:=hid (show w2.heap[w.heap.size]?=some (.cells #[.int .i64 kd,.int .i64 a,.int .i64 b,.int .i64 c,.int .i64 d,.string v,.string tp,.int .i64 m,.int .i64 t,.int .i64 l] 31) from (hb2.block _ (by simp)).trans (alloc_at _ _))
 have hb02:Below w.heap.size w w2:=((Below.refl w.heap.size w).alloc (Nat.le_refl _) _).trans (hb2.mono (by simp))
 have b5:w2.cell? ⟨w.heap.size,5,none⟩=some (.string v):=by rw [cells_at HB2.out];rfl
 have hlt2:w.heap.size<w2.heap.size:=cells_lt HB2.out
 have hne2:w.heap.size≠w2.heap.size:=by omega
 clear hb2
 go_wp2_with (first | (go_at_call 27;refine (HSH.out _).mono ?_;rintro e w9 ⟨rfl,rfl⟩))
 have hba3:=(Below.refl w2.heap.size w2).alloc (Nat.le_refl _) (.cells #[.int .i64 pm,.int .i64 pt,.int .i64 pl] 29)
 have HP3':=alloc_at w2 (.cells #[.int .i64 pm,.int .i64 pt,.int .i64 pl] 29)
 have HB3':=(hba3.block _ hlt2).trans HB2.out
 generalize w2.alloc (.cells #[.int .i64 pm,.int .i64 pt,.int .i64 pl] 29)=w3 at *
 have HP3:=hid HP3'
 have HB3:=hid HB3'
 clear HP3' HB3'
 have hb03:Below w.heap.size w w3:=hb02.trans (hba3.mono hb02.size)
 have HCX:=hid (show ∀w':World,Spared O { w3 with drawn:=w3.drawn+1 } w'→w'.cell? ⟨w.heap.size,1,none⟩=some (.int .i64 a)∧w'.cell? ⟨w.heap.size,6,none⟩=some (.string tp)∧w'.cell? ⟨w2.heap.size,0,none⟩=some (.int .i64 pm)∧w'.cell? ⟨w2.heap.size,1,none⟩=some (.int .i64 pt)∧w'.cell? ⟨w2.heap.size,2,none⟩=some (.int .i64 pl) from fun w' hs=>by
  have h1:=hs.heap (b:=w.heap.size) HB3.out (fun e=>by have:=HOO.out _ e;omega)
  have h2:=hs.heap (b:=w2.heap.size) HP3.out (fun e=>by have:=HOO.out _ e;omega)
  exact ⟨by rw [cells_at h1];rfl,by rw [cells_at h1];rfl,by rw [cells_at h2];rfl,by rw [cells_at h2];rfl,by rw [cells_at h2];rfl⟩)
 refine wp_region_call (by kernel_rfl) dpS (dpV C w.heap.size a nm vs tp pm pt pl) 12 Post O [(0,.pointer (some ⟨C,0,none⟩)),(5,.pointer (some ⟨w.heap.size,0,none⟩)),(7,.pointer (some ⟨w2.heap.size,0,none⟩)),(8,.string vs)] 114 (fun j=>if j=0 then [0] else if j=1∨j=6 then [5] else if j=5∨j=8 then [7] else if j=4∨j=9 then [8] else []) (by kernel_rfl) rfl (by kernel_rfl) rfl rfl ?_ HPO.out ?_ ?_
 ·simp
 ·refine ⟨?_,?_,?_,?_,?_,?_,?_,?_,?_,?_,?_,?_,?_,?_,trivial⟩
  ·intro ac w' hsz hs hf hd
   refine ⟨fun _=>?_,fun h=>?_,fun h=>?_⟩
   ·clear hsz
    have f0:ac.tmps[0]?.getD undef=.pointer (some ⟨C,0,none⟩):=by simpa using hf (0,.pointer (some ⟨C,0,none⟩)) (by simp) rfl
    obtain ⟨k1,k6,q0,q1,q2⟩:=HCX.out w' hs
    simp [dpV,dpS,Region.binds] at hd
    exact .inl ⟨.pointer (some ⟨C,0,none⟩),w',by go_simp,rfl,Spared.refl _ _⟩
   ·exact absurd h (by decide)
   ·exact absurd h (by decide)
  ·intro ac w' hsz hs hf hd
   refine ⟨fun _=>?_,fun h=>?_,fun h=>?_⟩
   ·clear hsz
    have f5:ac.tmps[5]?.getD undef=.pointer (some ⟨w.heap.size,0,none⟩):=by simpa using hf (5,.pointer (some ⟨w.heap.size,0,none⟩)) (by simp) rfl
    obtain ⟨k1,k6,q0,q1,q2⟩:=HCX.out w' hs
    simp [dpV,dpS,Region.binds] at hd
    exact .inl ⟨.pointer (some ⟨w.heap.size,1,none⟩),w',by go_simp,rfl,Spared.refl _ _⟩
   ·exact absurd h (by decide)
   ·exact absurd h (by decide)
  ·intro ac w' hsz hs hf hd
   refine ⟨fun _=>?_,fun h=>?_,fun h=>?_⟩
   ·clear hsz
    obtain ⟨k1,k6,q0,q1,q2⟩:=HCX.out w' hs
    simp [dpV,dpS,Region.binds] at hd
    exact .inl ⟨.int .i64 a,w',by go_simp,rfl,Spared.refl _ _⟩
   ·exact absurd h (by decide)
   ·exact absurd h (by decide)
  ·intro ac w' hsz hs hf hd
   refine ⟨fun _=>?_,fun h=>?_,fun h=>?_⟩
   ·clear hsz
    obtain ⟨k1,k6,q0,q1,q2⟩:=HCX.out w' hs
    simp [dpV,dpS,Region.binds] at hd
    refine .inr ⟨28,#[.int .i64 a],by go_simp,(HNA.out w').mono ?_⟩
    rintro e w'' ⟨rfl,hb⟩
    exact ⟨_,rfl,rfl,Spared.ofBelow hb (Nat.le_refl _)⟩
   ·exact absurd h (by decide)
   ·exact absurd h (by decide)
  ·intro ac w' hsz hs hf hd
   refine ⟨fun _=>?_,fun h=>?_,fun h=>?_⟩
   ·clear hsz
    have f8:ac.tmps[8]?.getD undef=.string vs:=by simpa using hf (8,.string vs) (by simp) rfl
    obtain ⟨k1,k6,q0,q1,q2⟩:=HCX.out w' hs
    simp [dpV,dpS,Region.binds] at hd
    exact .inl ⟨.string vs,w',by go_simp,rfl,Spared.refl _ _⟩
   ·exact absurd h (by decide)
   ·exact absurd h (by decide)
  ·intro ac w' hsz hs hf hd
   refine ⟨fun _=>?_,fun h=>?_,fun h=>?_⟩
   ·clear hsz
    have f7:ac.tmps[7]?.getD undef=.pointer (some ⟨w2.heap.size,0,none⟩):=by simpa using hf (7,.pointer (some ⟨w2.heap.size,0,none⟩)) (by simp) rfl
    obtain ⟨k1,k6,q0,q1,q2⟩:=HCX.out w' hs
    simp [dpV,dpS,Region.binds] at hd
    exact .inl ⟨.agg #[.int .i64 pm,.int .i64 pt,.int .i64 pl],w',by go_simp,rfl,Spared.refl _ _⟩
   ·exact absurd h (by decide)
   ·exact absurd h (by decide)
  ·intro ac w' hsz hs hf hd
   refine ⟨fun _=>?_,fun h=>?_,fun h=>?_⟩
   ·clear hsz
    have f5:ac.tmps[5]?.getD undef=.pointer (some ⟨w.heap.size,0,none⟩):=by simpa using hf (5,.pointer (some ⟨w.heap.size,0,none⟩)) (by simp) rfl
    obtain ⟨k1,k6,q0,q1,q2⟩:=HCX.out w' hs
    simp [dpV,dpS,Region.binds] at hd
    exact .inl ⟨.pointer (some ⟨w.heap.size,6,none⟩),w',by go_simp,rfl,Spared.refl _ _⟩
   ·exact absurd h (by decide)
   ·exact absurd h (by decide)
  ·intro ac w' hsz hs hf hd
   refine ⟨fun _=>?_,fun h=>?_,fun h=>?_⟩
   ·clear hsz
    obtain ⟨k1,k6,q0,q1,q2⟩:=HCX.out w' hs
    simp [dpV,dpS,Region.binds] at hd
    exact .inl ⟨.string tp,w',by go_simp,rfl,Spared.refl _ _⟩
   ·exact absurd h (by decide)
   ·exact absurd h (by decide)
  ·intro ac w' hsz hs hf hd
   refine ⟨fun _=>?_,fun h=>?_,fun h=>?_⟩
   ·clear hsz
    have f7:ac.tmps[7]?.getD undef=.pointer (some ⟨w2.heap.size,0,none⟩):=by simpa using hf (7,.pointer (some ⟨w2.heap.size,0,none⟩)) (by simp) rfl
    obtain ⟨k1,k6,q0,q1,q2⟩:=HCX.out w' hs
    simp [dpV,dpS,Region.binds] at hd
    exact .inl ⟨.agg #[.int .i64 pm,.int .i64 pt,.int .i64 pl],w',by go_simp,rfl,Spared.refl _ _⟩
   ·exact absurd h (by decide)
   ·exact absurd h (by decide)
  ·intro ac w' hsz hs hf hd
   refine ⟨fun _=>?_,fun h=>?_,fun h=>?_⟩
   ·clear hsz
    have f8:ac.tmps[8]?.getD undef=.string vs:=by simpa using hf (8,.string vs) (by simp) rfl
    obtain ⟨k1,k6,q0,q1,q2⟩:=HCX.out w' hs
    simp [dpV,dpS,Region.binds] at hd
    exact .inl ⟨.string vs,w',by go_simp,rfl,Spared.refl _ _⟩
   ·exact absurd h (by decide)
   ·exact absurd h (by decide)
  ·intro ac w' hsz hs hf hd
   refine ⟨fun _=>?_,fun h=>?_,fun h=>?_⟩
   ·clear hsz
    obtain ⟨k1,k6,q0,q1,q2⟩:=HCX.out w' hs
    simp [dpV,dpS,Region.binds] at hd
    exact .inl ⟨.int .i64 vs.size,w',by go_simp,rfl,Spared.refl _ _⟩
   ·exact absurd h (by decide)
   ·exact absurd h (by decide)
  ·intro ac w' hsz hs hf hd
   refine ⟨fun _=>?_,fun h=>?_,fun h=>?_⟩
   ·clear hsz
    obtain ⟨k1,k6,q0,q1,q2⟩:=HCX.out w' hs
    simp [dpV,dpS,Region.binds] at hd
    refine .inr ⟨29,#[.string tp,.agg #[.int .i64 pm,.int .i64 pt,.int .i64 pl],.int .i64 vs.size],by go_simp,(HTA.out w').mono ?_⟩
    rintro e w'' ⟨s,rfl,hsz,hb⟩
    exact ⟨_,rfl,⟨s,rfl,hsz⟩,Spared.ofBelow hb (Nat.le_refl _)⟩
   ·exact absurd h (by decide)
   ·exact absurd h (by decide)
  ·intro ac w' hsz hs hf hd
   refine ⟨fun h=>absurd h (by decide),fun _ hu=>?_,fun h=>absurd h (by decide)⟩
   clear hsz
   simp [dpV,dpS,Region.binds] at hd
   obtain ⟨h0,h3,h4,h5,s,h11,hs11⟩:=hd
   refine .inr ⟨16,#[.pointer (some ⟨C,0,none⟩),.string nm,.string vs,.agg #[.int .i64 pm,.int .i64 pt,.int .i64 pl],.string s],by go_simp,(HC.out w' s (hb03.drew.trans (hu.below w.heap.size (by show w.heap.size≤w3.heap.size;have:=hb03.size;omega) (fun _ h=>h.elim))) hs11).mono ?_⟩
   rintro e w'' ⟨v,rfl,hp,hsp⟩
   exact ⟨_,rfl,hp,hsp⟩
  ·intro ac w' hsz hs hf hd
   refine ⟨fun h=>absurd h (by decide),fun h=>absurd h (by decide),fun _=>?_⟩
   have h35:35<ac.tmps.size:=by rw [hsz];decide
   go_simp
   simp [dpS,h35]
 ·intro a1 w' hdf hsz hs hp
  obtain ⟨tm,df⟩:=a1
  simp only at hdf hsz hp
  subst hdf
  have HPP:=hid hp
  clear hp hsz
  go_wp2_with fail
  go_ret
  exact ⟨_,rfl,HPP.out⟩
set_option maxRecDepth 100000 in
set_option maxHeartbeats 2000000 in
theorem do_del (C n:Nat) (st:StepV) (w:World) (hst:st.Ok) (hk:pickN st.kind 7=1) (Post:Value→World→Prop)
  (hc:∀w1,Below w.heap.size w w1→Calls Tryz.prog 18 #[.pointer (some ⟨C,0,none⟩),.string (nameB st.a)] w1 fun e w'=>∃v,e=.returned v∧Post v w') :
  Calls Tryz.prog 7 #[.pointer (some ⟨C,0,none⟩),.int .i64 n,st.val] w fun e w'=>∃v,e=.returned v∧Post v w':=by
 have HPI:=hid (fun w'=>pick_any st.kind 7 w' hst.kind.1 hst.kind.2 (by decide) (by decide))
 rw [hk] at HPI
 have HNA:=hid (fun w'=>name_any st.a w' hst.a)
 have HC:=hid hc
 obtain ⟨kd,a,b,c,d,v,tp,m,t,l⟩:=st
 simp only [StepV.val] at *
 generalize nameB a=nm at *
 clear hst hk hc
 go_enter Tryz.func7,Tryz.ntmps7
 go_wp2_with (first | (go_at_call 5;refine (HPI.out _).mono ?_;rintro e w9 ⟨rfl,rfl⟩))
 refine (HNA.out _).mono ?_
 rintro e w2 ⟨rfl,hb2⟩
 have HB:=hid (show Below w.heap.size w w2 from ((Below.refl w.heap.size w).alloc (Nat.le_refl _) _).trans (hb2.mono (by simp)))
 go_wp2_with fail
 refine (HC.out _ HB.out).mono ?_
 rintro e w4 ⟨v,rfl,hp⟩
 have HP:=hid hp
 clear hp
 go_wp2_with fail
 go_ret
 exact ⟨_,rfl,HP.out⟩
set_option maxRecDepth 100000 in
set_option maxHeartbeats 2000000 in
theorem do_crash (C n:Nat) (st:StepV) (w:World) (hst:st.Ok) (hk:pickN st.kind 7=5) (Post:Value→World→Prop)
  (hc:∀w1,Below w.heap.size w w1→Calls Tryz.prog 31 #[.pointer (some ⟨C,0,none⟩),.int .i64 (pickN st.c 30)] w1 fun e w'=>e=.returned (.tuple #[])∧Post (.int .i64 0) w') :
  Calls Tryz.prog 7 #[.pointer (some ⟨C,0,none⟩),.int .i64 n,st.val] w fun e w'=>∃v,e=.returned v∧Post v w':=by
 have HPI:=hid (fun w'=>pick_any st.kind 7 w' hst.kind.1 hst.kind.2 (by decide) (by decide))
 rw [hk] at HPI
 have HPC:=hid (fun w'=>pick_any st.c 30 w' hst.c.1 hst.c.2 (by decide) (by decide))
 have HC:=hid hc
 obtain ⟨kd,a,b,c,d,v,tp,m,t,l⟩:=st
 simp only [StepV.val] at *
 generalize pickN c 30=pc at *
 clear hst hk hc
 go_enter Tryz.func7,Tryz.ntmps7
 go_wp2_with fail
 refine (HPI.out _).mono ?_
 rintro e w9 ⟨rfl,rfl⟩
 go_wp2_with fail
 refine (HPC.out _).mono ?_
 rintro e w9 ⟨rfl,rfl⟩
 go_wp2_with fail
 refine (HC.out _ ((Below.refl w.heap.size w).alloc (Nat.le_refl _) _)).mono ?_
 rintro e w4 ⟨rfl,hp⟩
 have HP:=hid hp
 clear hp
 go_wp2_with fail
 go_ret
 exact ⟨_,rfl,HP.out⟩
set_option maxRecDepth 100000 in
set_option maxHeartbeats 2000000 in
theorem do_rec (C n:Nat) (st:StepV) (w:World) (hst:st.Ok) (hk:pickN st.kind 7=6) (Post:Value→World→Prop)
  (hc:∀w1,Below w.heap.size w w1→Calls Tryz.prog 22 #[.pointer (some ⟨C,0,none⟩)] w1 fun e w'=>∃v,e=.returned v∧Post v w') :
  Calls Tryz.prog 7 #[.pointer (some ⟨C,0,none⟩),.int .i64 n,st.val] w fun e w'=>∃v,e=.returned v∧Post v w':=by
 have HPI:=hid (fun w'=>pick_any st.kind 7 w' hst.kind.1 hst.kind.2 (by decide) (by decide))
 rw [hk] at HPI
 have HC:=hid hc
 obtain ⟨kd,a,b,c,d,v,tp,m,t,l⟩:=st
 simp only [StepV.val] at *
 clear hst hk hc
 go_enter Tryz.func7,Tryz.ntmps7
 go_wp2_with (first | (go_at_call 5;refine (HPI.out _).mono ?_;rintro e w9 ⟨rfl,rfl⟩))
 refine (HC.out _ ((Below.refl w.heap.size w).alloc (Nat.le_refl _) _)).mono ?_
 rintro e w4 ⟨v,rfl,hp⟩
 have HP:=hid hp
 clear hp
 go_wp2_with fail
 go_ret
 exact ⟨_,rfl,HP.out⟩
def IsB (v:Value):Prop:=∃up:Bool,v=.bool up
def duS (i:Nat):Nat:=if i=10 then 6 else i+95
def duV (C W n:Nat) (a c:Int) (pa:Nat):Nat→Value→Prop
 | 0,v=>v=.pointer (some ⟨C,0,none⟩)
 | 1,v=>v=.pointer (some ⟨W,1,none⟩)
 | 2,v=>v=.int .i64 a
 | 3,v=>v=.int .i64 n
 | 4,v=>v=.int .i64 pa
 | 5,v=>v=.pointer (some ⟨W,3,none⟩)
 | 6,v=>v=.int .i64 c
 | 7,v=>v=.int .i64 (c.tmod 2)
 | 8,v=>IsB v
 | _,_=>True
set_option maxRecDepth 100000 in
set_option maxHeartbeats 2000000 in
theorem do_up (C n:Nat) (st:StepV) (w:World) (hst:st.Ok) (hk:pickN st.kind 7=4) (h1:1≤n) (h8:n≤8) (O:Nat→Prop) (hO:∀b,O b→b<w.heap.size) (Post:Value→World→Prop) (hPost:∀v w1 w2,Post v w1→Spared (fun _=>False) w1 w2→Post v w2)
  (hc:∀w1 up,Below w.heap.size w w1→Calls Tryz.prog 19 #[.pointer (some ⟨C,0,none⟩),.int .i64 (pickN st.a n),.bool up] w1 fun e w'=>∃v,e=.returned v∧Post v w'∧Spared O w1 w') :
  Calls Tryz.prog 7 #[.pointer (some ⟨C,0,none⟩),.int .i64 n,st.val] w fun e w'=>∃v,e=.returned v∧Post v w':=by
 have HPI:=hid (fun w'=>pick_any st.kind 7 w' hst.kind.1 hst.kind.2 (by decide) (by decide))
 rw [hk] at HPI
 have HPA:=hid (fun w'=>pick_any st.a n w' hst.a.1 hst.a.2 (by omega) (by omega))
 have HC:=hid hc
 have HPO:=hid hPost
 have HOO:=hid hO
 have hcI:=hst.c
 obtain ⟨kd,a,b,c,d,v,tp,m,t,l⟩:=st
 simp only [StepV.val] at *
 have HCI:=hid hcI
 generalize pickN a n=pa at *
 clear hst hk hc hPost hO hcI
 go_enter Tryz.func7,Tryz.ntmps7
 go_wp2_with (first | (go_at_call 5;refine (HPI.out _).mono ?_;rintro e w9 ⟨rfl,rfl⟩))
 have hbx:=(Below.refl w.heap.size w).alloc (Nat.le_refl _) (.cells #[.int .i64 kd,.int .i64 a,.int .i64 b,.int .i64 c,.int .i64 d,.string v,.string tp,.int .i64 m,.int .i64 t,.int .i64 l] 31)
 have HBX':=alloc_at w (.cells #[.int .i64 kd,.int .i64 a,.int .i64 b,.int .i64 c,.int .i64 d,.string v,.string tp,.int .i64 m,.int .i64 t,.int .i64 l] 31)
 generalize w.alloc (.cells #[.int .i64 kd,.int .i64 a,.int .i64 b,.int .i64 c,.int .i64 d,.string v,.string tp,.int .i64 m,.int .i64 t,.int .i64 l] 31)=w3 at *
 have HB3:=hid HBX'
 have hb03:=hbx
 clear HBX'
 have HCX:=hid (show ∀w':World,Spared O { w3 with drawn:=w3.drawn+1 } w'→w'.cell? ⟨w.heap.size,1,none⟩=some (.int .i64 a)∧w'.cell? ⟨w.heap.size,3,none⟩=some (.int .i64 c) from fun w' hs=>by
  have h1:=hs.heap (b:=w.heap.size) HB3.out (fun e=>by have:=HOO.out _ e;omega)
  exact ⟨by rw [cells_at h1];rfl,by rw [cells_at h1];rfl⟩)
 refine wp_region_call (by kernel_rfl) duS (duV C w.heap.size n a c pa) 9 Post O [(0,.pointer (some ⟨C,0,none⟩)),(1,.int .i64 n),(5,.pointer (some ⟨w.heap.size,0,none⟩))] 114 (fun j=>if j=0 then [0] else if j=1∨j=5 then [5] else if j=3 then [1] else []) (by kernel_rfl) rfl (by kernel_rfl) rfl rfl ?_ HPO.out ?_ ?_
 ·simp
 ·refine ⟨?_,?_,?_,?_,?_,?_,?_,?_,?_,?_,?_,trivial⟩
  ·intro ac w' hsz hs hf hd
   refine ⟨fun _=>?_,fun h=>?_,fun h=>?_⟩
   ·clear hsz
    have f0:ac.tmps[0]?.getD undef=.pointer (some ⟨C,0,none⟩):=by simpa using hf (0,.pointer (some ⟨C,0,none⟩)) (by simp) rfl
    obtain ⟨k1,k3⟩:=HCX.out w' hs
    simp [duV,duS,Region.binds] at hd
    exact .inl ⟨.pointer (some ⟨C,0,none⟩),w',by go_simp,rfl,Spared.refl _ _⟩
   ·exact absurd h (by decide)
   ·exact absurd h (by decide)
  ·intro ac w' hsz hs hf hd
   refine ⟨fun _=>?_,fun h=>?_,fun h=>?_⟩
   ·clear hsz
    have f5:ac.tmps[5]?.getD undef=.pointer (some ⟨w.heap.size,0,none⟩):=by simpa using hf (5,.pointer (some ⟨w.heap.size,0,none⟩)) (by simp) rfl
    obtain ⟨k1,k3⟩:=HCX.out w' hs
    simp [duV,duS,Region.binds] at hd
    exact .inl ⟨.pointer (some ⟨w.heap.size,1,none⟩),w',by go_simp,rfl,Spared.refl _ _⟩
   ·exact absurd h (by decide)
   ·exact absurd h (by decide)
  ·intro ac w' hsz hs hf hd
   refine ⟨fun _=>?_,fun h=>?_,fun h=>?_⟩
   ·clear hsz
    obtain ⟨k1,k3⟩:=HCX.out w' hs
    simp [duV,duS,Region.binds] at hd
    exact .inl ⟨.int .i64 a,w',by go_simp,rfl,Spared.refl _ _⟩
   ·exact absurd h (by decide)
   ·exact absurd h (by decide)
  ·intro ac w' hsz hs hf hd
   refine ⟨fun _=>?_,fun h=>?_,fun h=>?_⟩
   ·clear hsz
    have f1:ac.tmps[1]?.getD undef=.int .i64 n:=by simpa using hf (1,.int .i64 n) (by simp) rfl
    obtain ⟨k1,k3⟩:=HCX.out w' hs
    simp [duV,duS,Region.binds] at hd
    exact .inl ⟨.int .i64 n,w',by go_simp,rfl,Spared.refl _ _⟩
   ·exact absurd h (by decide)
   ·exact absurd h (by decide)
  ·intro ac w' hsz hs hf hd
   refine ⟨fun _=>?_,fun h=>?_,fun h=>?_⟩
   ·clear hsz
    obtain ⟨k1,k3⟩:=HCX.out w' hs
    simp [duV,duS,Region.binds] at hd
    refine .inr ⟨5,#[.int .i64 a,.int .i64 n],by go_simp,(HPA.out w').mono ?_⟩
    rintro e w'' ⟨rfl,rfl⟩
    exact ⟨_,rfl,rfl,Spared.refl _ _⟩
   ·exact absurd h (by decide)
   ·exact absurd h (by decide)
  ·intro ac w' hsz hs hf hd
   refine ⟨fun _=>?_,fun h=>?_,fun h=>?_⟩
   ·clear hsz
    have f5:ac.tmps[5]?.getD undef=.pointer (some ⟨w.heap.size,0,none⟩):=by simpa using hf (5,.pointer (some ⟨w.heap.size,0,none⟩)) (by simp) rfl
    obtain ⟨k1,k3⟩:=HCX.out w' hs
    simp [duV,duS,Region.binds] at hd
    exact .inl ⟨.pointer (some ⟨w.heap.size,3,none⟩),w',by go_simp,rfl,Spared.refl _ _⟩
   ·exact absurd h (by decide)
   ·exact absurd h (by decide)
  ·intro ac w' hsz hs hf hd
   refine ⟨fun _=>?_,fun h=>?_,fun h=>?_⟩
   ·clear hsz
    obtain ⟨k1,k3⟩:=HCX.out w' hs
    simp [duV,duS,Region.binds] at hd
    exact .inl ⟨.int .i64 c,w',by go_simp,rfl,Spared.refl _ _⟩
   ·exact absurd h (by decide)
   ·exact absurd h (by decide)
  ·intro ac w' hsz hs hf hd
   refine ⟨fun _=>?_,fun h=>?_,fun h=>?_⟩
   ·clear hsz
    obtain ⟨k1,k3⟩:=HCX.out w' hs
    simp [duV,duS,Region.binds] at hd
    have hw:wrap64 (c.tmod 2)=c.tmod 2:=by have:=HCI.out;unfold I64 at this;have h1:=Int.tmod_lt_of_pos c (show (0:Int)<2 by decide);have h2:=Int.lt_tmod_of_pos c (show (0:Int)<2 by decide);unfold wrap64;omega
    exact .inl ⟨.int .i64 (c.tmod 2),w',by go_simp,rfl,Spared.refl _ _⟩
   ·exact absurd h (by decide)
   ·exact absurd h (by decide)
  ·intro ac w' hsz hs hf hd
   refine ⟨fun _=>?_,fun h=>?_,fun h=>?_⟩
   ·clear hsz
    obtain ⟨k1,k3⟩:=HCX.out w' hs
    simp [duV,duS,Region.binds] at hd
    exact .inl ⟨.bool (c.tmod 2 != 0),w',by go_simp,⟨_,rfl⟩,Spared.refl _ _⟩
   ·exact absurd h (by decide)
   ·exact absurd h (by decide)
  ·intro ac w' hsz hs hf hd
   refine ⟨fun h=>absurd h (by decide),fun _ hu=>?_,fun h=>absurd h (by decide)⟩
   clear hsz
   simp [duV,duS,Region.binds] at hd
   obtain ⟨h0,h4,hB⟩:=hd
   obtain ⟨up,h8'⟩:=hB.1
   refine .inr ⟨19,#[.pointer (some ⟨C,0,none⟩),.int .i64 pa,.bool up],by go_simp,(HC.out w' up (hb03.drew.trans (hu.below w.heap.size (by show w.heap.size≤w3.heap.size;exact hb03.size) (fun _ h=>h.elim)))).mono ?_⟩
   rintro e w'' ⟨v,rfl,hp,hsp⟩
   exact ⟨_,rfl,hp,hsp⟩
  ·intro ac w' hsz hs hf hd
   refine ⟨fun h=>absurd h (by decide),fun h=>absurd h (by decide),fun _=>?_⟩
   have h35:104<ac.tmps.size:=by rw [hsz];decide
   go_simp
   simp [duS,h35]
 ·intro a1 w' hdf hsz hs hp
  obtain ⟨tm,df⟩:=a1
  simp only at hdf hsz hp
  subst hdf
  have HPP:=hid hp
  clear hp hsz
  go_wp2_with fail
  go_ret
  exact ⟨_,rfl,HPP.out⟩
def dsS (i:Nat):Nat:=if i=16 then 6 else i+77
def dsV (C W n:Nat) (a b c d:Int) (pa pc pd:Nat) (nm:ByteArray):Nat→Value→Prop
 | 0,v=>v=.pointer (some ⟨C,0,none⟩)
 | 1,v=>v=.pointer (some ⟨W,1,none⟩)
 | 2,v=>v=.int .i64 a
 | 3,v=>v=.int .i64 n
 | 4,v=>v=.int .i64 pa
 | 5,v=>v=.pointer (some ⟨W,2,none⟩)
 | 6,v=>v=.int .i64 b
 | 7,v=>v=.string nm
 | 8,v=>v=.pointer (some ⟨W,3,none⟩)
 | 9,v=>v=.int .i64 c
 | 10,v=>v=.int .i64 pc
 | 11,v=>v=.pointer (some ⟨W,4,none⟩)
 | 12,v=>v=.int .i64 d
 | 13,v=>v=.int .i64 pd
 | 14,v=>v=.int .u8 pd
 | _,_=>True
set_option maxRecDepth 100000 in
set_option maxHeartbeats 2000000 in
theorem do_spoil (C n:Nat) (st:StepV) (w:World) (hst:st.Ok) (hk:pickN st.kind 7=3) (h1:1≤n) (h8:n≤8) (O:Nat→Prop) (hO:∀b,O b→b<w.heap.size) (Post:Value→World→Prop) (hPost:∀v w1 w2,Post v w1→Spared (fun _=>False) w1 w2→Post v w2)
  (hc:∀w1,Below w.heap.size w w1→Calls Tryz.prog 20 #[.pointer (some ⟨C,0,none⟩),.int .i64 (pickN st.a n),.string (nameB st.b),.int .i64 (pickN st.c 100),.int .u8 (pickN st.d 256)] w1 fun e w'=>∃v,e=.returned v∧Post v w'∧Spared O w1 w') :
  Calls Tryz.prog 7 #[.pointer (some ⟨C,0,none⟩),.int .i64 n,st.val] w fun e w'=>∃v,e=.returned v∧Post v w':=by
 have HPI:=hid (fun w'=>pick_any st.kind 7 w' hst.kind.1 hst.kind.2 (by decide) (by decide))
 rw [hk] at HPI
 have HPA:=hid (fun w'=>pick_any st.a n w' hst.a.1 hst.a.2 (by omega) (by omega))
 have HPC:=hid (fun w'=>pick_any st.c 100 w' hst.c.1 hst.c.2 (by omega) (by omega))
 have HPD:=hid (fun w'=>pick_any st.d 256 w' hst.d.1 hst.d.2 (by omega) (by omega))
 have HNA:=hid (fun w'=>name_any st.b w' hst.b)
 have hpd:pickN st.d 256<256:=pickN_lt _ _ (by decide)
 have HC:=hid hc
 have HPO:=hid hPost
 have HOO:=hid hO
 obtain ⟨kd,a,b,c,d,v,tp,m,t,l⟩:=st
 simp only [StepV.val] at *
 generalize pickN a n=pa at *
 generalize pickN c 100=pc at *
 generalize pickN d 256=pd at *
 generalize nameB b=nm at *
 have wpd:IntKind.u8.wrap (pd:Int)=(pd:Int):=u8wrap pd hpd
 clear hst hk hc hPost hO
 go_enter Tryz.func7,Tryz.ntmps7
 go_wp2_with (first | (go_at_call 5;refine (HPI.out _).mono ?_;rintro e w9 ⟨rfl,rfl⟩))
 have hbx:=(Below.refl w.heap.size w).alloc (Nat.le_refl _) (.cells #[.int .i64 kd,.int .i64 a,.int .i64 b,.int .i64 c,.int .i64 d,.string v,.string tp,.int .i64 m,.int .i64 t,.int .i64 l] 31)
 have HBX':=alloc_at w (.cells #[.int .i64 kd,.int .i64 a,.int .i64 b,.int .i64 c,.int .i64 d,.string v,.string tp,.int .i64 m,.int .i64 t,.int .i64 l] 31)
 generalize w.alloc (.cells #[.int .i64 kd,.int .i64 a,.int .i64 b,.int .i64 c,.int .i64 d,.string v,.string tp,.int .i64 m,.int .i64 t,.int .i64 l] 31)=w3 at *
 have HB3:=hid HBX'
 have hb03:=hbx
 clear HBX'
 have HCX:=hid (show ∀w':World,Spared O { w3 with drawn:=w3.drawn+1 } w'→w'.cell? ⟨w.heap.size,1,none⟩=some (.int .i64 a)∧w'.cell? ⟨w.heap.size,2,none⟩=some (.int .i64 b)∧w'.cell? ⟨w.heap.size,3,none⟩=some (.int .i64 c)∧w'.cell? ⟨w.heap.size,4,none⟩=some (.int .i64 d) from fun w' hs=>by
  have h1:=hs.heap (b:=w.heap.size) HB3.out (fun e=>by have:=HOO.out _ e;omega)
  exact ⟨by rw [cells_at h1];rfl,by rw [cells_at h1];rfl,by rw [cells_at h1];rfl,by rw [cells_at h1];rfl⟩)
 refine wp_region_call (by kernel_rfl) dsS (dsV C w.heap.size n a b c d pa pc pd nm) 15 Post O [(0,.pointer (some ⟨C,0,none⟩)),(1,.int .i64 n),(5,.pointer (some ⟨w.heap.size,0,none⟩))] 114 (fun j=>if j=0 then [0] else if j=1∨j=5∨j=8∨j=11 then [5] else if j=3 then [1] else []) (by kernel_rfl) rfl (by kernel_rfl) rfl rfl ?_ HPO.out ?_ ?_
 ·simp
 ·refine ⟨?_,?_,?_,?_,?_,?_,?_,?_,?_,?_,?_,?_,?_,?_,?_,?_,?_,trivial⟩
  ·intro ac w' hsz hs hf hd
   refine ⟨fun _=>?_,fun h=>?_,fun h=>?_⟩
   ·clear hsz
    have f0:ac.tmps[0]?.getD undef=.pointer (some ⟨C,0,none⟩):=by simpa using hf (0,.pointer (some ⟨C,0,none⟩)) (by simp) rfl
    obtain ⟨k1,k2,k3,k4⟩:=HCX.out w' hs
    simp [dsV,dsS,Region.binds] at hd
    exact .inl ⟨.pointer (some ⟨C,0,none⟩),w',by go_simp,rfl,Spared.refl _ _⟩
   ·exact absurd h (by decide)
   ·exact absurd h (by decide)
  ·intro ac w' hsz hs hf hd
   refine ⟨fun _=>?_,fun h=>?_,fun h=>?_⟩
   ·clear hsz
    have f5:ac.tmps[5]?.getD undef=.pointer (some ⟨w.heap.size,0,none⟩):=by simpa using hf (5,.pointer (some ⟨w.heap.size,0,none⟩)) (by simp) rfl
    obtain ⟨k1,k2,k3,k4⟩:=HCX.out w' hs
    simp [dsV,dsS,Region.binds] at hd
    exact .inl ⟨.pointer (some ⟨w.heap.size,1,none⟩),w',by go_simp,rfl,Spared.refl _ _⟩
   ·exact absurd h (by decide)
   ·exact absurd h (by decide)
  ·intro ac w' hsz hs hf hd
   refine ⟨fun _=>?_,fun h=>?_,fun h=>?_⟩
   ·clear hsz
    obtain ⟨k1,k2,k3,k4⟩:=HCX.out w' hs
    simp [dsV,dsS,Region.binds] at hd
    exact .inl ⟨.int .i64 a,w',by go_simp,rfl,Spared.refl _ _⟩
   ·exact absurd h (by decide)
   ·exact absurd h (by decide)
  ·intro ac w' hsz hs hf hd
   refine ⟨fun _=>?_,fun h=>?_,fun h=>?_⟩
   ·clear hsz
    have f1:ac.tmps[1]?.getD undef=.int .i64 n:=by simpa using hf (1,.int .i64 n) (by simp) rfl
    obtain ⟨k1,k2,k3,k4⟩:=HCX.out w' hs
    simp [dsV,dsS,Region.binds] at hd
    exact .inl ⟨.int .i64 n,w',by go_simp,rfl,Spared.refl _ _⟩
   ·exact absurd h (by decide)
   ·exact absurd h (by decide)
  ·intro ac w' hsz hs hf hd
   refine ⟨fun _=>?_,fun h=>?_,fun h=>?_⟩
   ·clear hsz
    obtain ⟨k1,k2,k3,k4⟩:=HCX.out w' hs
    simp [dsV,dsS,Region.binds] at hd
    refine .inr ⟨5,#[.int .i64 a,.int .i64 n],by go_simp,(HPA.out w').mono ?_⟩
    rintro e w'' ⟨rfl,rfl⟩
    exact ⟨_,rfl,rfl,Spared.refl _ _⟩
   ·exact absurd h (by decide)
   ·exact absurd h (by decide)
  ·intro ac w' hsz hs hf hd
   refine ⟨fun _=>?_,fun h=>?_,fun h=>?_⟩
   ·clear hsz
    have f5:ac.tmps[5]?.getD undef=.pointer (some ⟨w.heap.size,0,none⟩):=by simpa using hf (5,.pointer (some ⟨w.heap.size,0,none⟩)) (by simp) rfl
    obtain ⟨k1,k2,k3,k4⟩:=HCX.out w' hs
    simp [dsV,dsS,Region.binds] at hd
    exact .inl ⟨.pointer (some ⟨w.heap.size,2,none⟩),w',by go_simp,rfl,Spared.refl _ _⟩
   ·exact absurd h (by decide)
   ·exact absurd h (by decide)
  ·intro ac w' hsz hs hf hd
   refine ⟨fun _=>?_,fun h=>?_,fun h=>?_⟩
   ·clear hsz
    obtain ⟨k1,k2,k3,k4⟩:=HCX.out w' hs
    simp [dsV,dsS,Region.binds] at hd
    exact .inl ⟨.int .i64 b,w',by go_simp,rfl,Spared.refl _ _⟩
   ·exact absurd h (by decide)
   ·exact absurd h (by decide)
  ·intro ac w' hsz hs hf hd
   refine ⟨fun _=>?_,fun h=>?_,fun h=>?_⟩
   ·clear hsz
    obtain ⟨k1,k2,k3,k4⟩:=HCX.out w' hs
    simp [dsV,dsS,Region.binds] at hd
    refine .inr ⟨28,#[.int .i64 b],by go_simp,(HNA.out w').mono ?_⟩
    rintro e w'' ⟨rfl,hb⟩
    exact ⟨_,rfl,rfl,Spared.ofBelow hb (Nat.le_refl _)⟩
   ·exact absurd h (by decide)
   ·exact absurd h (by decide)
  ·intro ac w' hsz hs hf hd
   refine ⟨fun _=>?_,fun h=>?_,fun h=>?_⟩
   ·clear hsz
    have f5:ac.tmps[5]?.getD undef=.pointer (some ⟨w.heap.size,0,none⟩):=by simpa using hf (5,.pointer (some ⟨w.heap.size,0,none⟩)) (by simp) rfl
    obtain ⟨k1,k2,k3,k4⟩:=HCX.out w' hs
    simp [dsV,dsS,Region.binds] at hd
    exact .inl ⟨.pointer (some ⟨w.heap.size,3,none⟩),w',by go_simp,rfl,Spared.refl _ _⟩
   ·exact absurd h (by decide)
   ·exact absurd h (by decide)
  ·intro ac w' hsz hs hf hd
   refine ⟨fun _=>?_,fun h=>?_,fun h=>?_⟩
   ·clear hsz
    obtain ⟨k1,k2,k3,k4⟩:=HCX.out w' hs
    simp [dsV,dsS,Region.binds] at hd
    exact .inl ⟨.int .i64 c,w',by go_simp,rfl,Spared.refl _ _⟩
   ·exact absurd h (by decide)
   ·exact absurd h (by decide)
  ·intro ac w' hsz hs hf hd
   refine ⟨fun _=>?_,fun h=>?_,fun h=>?_⟩
   ·clear hsz
    obtain ⟨k1,k2,k3,k4⟩:=HCX.out w' hs
    simp [dsV,dsS,Region.binds] at hd
    refine .inr ⟨5,#[.int .i64 c,.int .i64 (100:Nat)],by go_simp,(HPC.out w').mono ?_⟩
    rintro e w'' ⟨rfl,rfl⟩
    exact ⟨_,rfl,rfl,Spared.refl _ _⟩
   ·exact absurd h (by decide)
   ·exact absurd h (by decide)
  ·intro ac w' hsz hs hf hd
   refine ⟨fun _=>?_,fun h=>?_,fun h=>?_⟩
   ·clear hsz
    have f5:ac.tmps[5]?.getD undef=.pointer (some ⟨w.heap.size,0,none⟩):=by simpa using hf (5,.pointer (some ⟨w.heap.size,0,none⟩)) (by simp) rfl
    obtain ⟨k1,k2,k3,k4⟩:=HCX.out w' hs
    simp [dsV,dsS,Region.binds] at hd
    exact .inl ⟨.pointer (some ⟨w.heap.size,4,none⟩),w',by go_simp,rfl,Spared.refl _ _⟩
   ·exact absurd h (by decide)
   ·exact absurd h (by decide)
  ·intro ac w' hsz hs hf hd
   refine ⟨fun _=>?_,fun h=>?_,fun h=>?_⟩
   ·clear hsz
    obtain ⟨k1,k2,k3,k4⟩:=HCX.out w' hs
    simp [dsV,dsS,Region.binds] at hd
    exact .inl ⟨.int .i64 d,w',by go_simp,rfl,Spared.refl _ _⟩
   ·exact absurd h (by decide)
   ·exact absurd h (by decide)
  ·intro ac w' hsz hs hf hd
   refine ⟨fun _=>?_,fun h=>?_,fun h=>?_⟩
   ·clear hsz
    obtain ⟨k1,k2,k3,k4⟩:=HCX.out w' hs
    simp [dsV,dsS,Region.binds] at hd
    refine .inr ⟨5,#[.int .i64 d,.int .i64 (256:Nat)],by go_simp,(HPD.out w').mono ?_⟩
    rintro e w'' ⟨rfl,rfl⟩
    exact ⟨_,rfl,rfl,Spared.refl _ _⟩
   ·exact absurd h (by decide)
   ·exact absurd h (by decide)
  ·intro ac w' hsz hs hf hd
   refine ⟨fun _=>?_,fun h=>?_,fun h=>?_⟩
   ·clear hsz
    obtain ⟨k1,k2,k3,k4⟩:=HCX.out w' hs
    simp [dsV,dsS,Region.binds] at hd
    exact .inl ⟨.int .u8 pd,w',by go_simp,rfl,Spared.refl _ _⟩
   ·exact absurd h (by decide)
   ·exact absurd h (by decide)
  ·intro ac w' hsz hs hf hd
   refine ⟨fun h=>absurd h (by decide),fun _ hu=>?_,fun h=>absurd h (by decide)⟩
   clear hsz
   simp [dsV,dsS,Region.binds] at hd
   obtain ⟨h0,h4,h7,h10,h14⟩:=hd
   refine .inr ⟨20,#[.pointer (some ⟨C,0,none⟩),.int .i64 pa,.string nm,.int .i64 pc,.int .u8 pd],by go_simp,(HC.out w' (hb03.drew.trans (hu.below w.heap.size (by show w.heap.size≤w3.heap.size;exact hb03.size) (fun _ h=>h.elim)))).mono ?_⟩
   rintro e w'' ⟨v,rfl,hp,hsp⟩
   exact ⟨_,rfl,hp,hsp⟩
  ·intro ac w' hsz hs hf hd
   refine ⟨fun h=>absurd h (by decide),fun h=>absurd h (by decide),fun _=>?_⟩
   have h35:92<ac.tmps.size:=by rw [hsz];decide
   go_simp
   simp [dsS,h35]
 ·intro a1 w' hdf hsz hs hp
  obtain ⟨tm,df⟩:=a1
  simp only at hdf hsz hp
  subst hdf
  have HPP:=hid hp
  clear hp hsz
  go_wp2_with fail
  go_ret
  exact ⟨_,rfl,HPP.out⟩
end Go.Proofs.YtcegdgmbponapabGreatDoor