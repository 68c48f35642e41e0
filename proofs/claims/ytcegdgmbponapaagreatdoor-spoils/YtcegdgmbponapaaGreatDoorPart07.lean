import Derived.Test.YtcegdgmbponapaaGreatDoorPart06
import Derived.Deep.Onto
set_option maxRecDepth 100000
set_option maxHeartbeats 4000000
namespace Go.Proofs.YtcegdgmbponapaaGreatDoor
open Go.RowKit
attribute [local go_sem ↓] Go.wp_at_zero Go.wp_at_succ
theorem qb4 {w:World} {base n size:Nat} {e:TypeId} {L:List Value} {v:Value} (h:w.ownsRow base e size v n L) (hn:0<n):∃g cap,v=.slice (some ⟨g,0,none⟩) n cap∧base≤g∧g<w.heap.size:=by
 rcases h with ⟨h1,⟨h2,h3⟩|⟨g,cap,cur,rfl,h3,h4,_⟩⟩
 ·omega
 ·exact ⟨g,cap,rfl,h3,cells_lt h4⟩
theorem ql1 (S:Nat) (down:Bool) (v:Value) (rs:List RecV) (r:RecV) (w:World) (h:Sto w S down v rs) (hyes:hasName rs r.name=true) :
  Calls Tryz.prog 183 #[.pointer (some ⟨S,0,none⟩),r.val] w fun e w' =>
   e=.returned (.tuple #[])∧Sto w' S down v (rs.set (qai rs r.name) ((rs[qai rs r.name]!).laid r))∧qaa (fun b=>v.ownBlock=some b) w w':=by
 obtain ⟨a,c,hv,hst⟩:=h.st
 have hba:=(Below.refl w.heap.size w).alloc nl (.cells #[.string r.name,.int .i64 r.mode,.int .i64 r.t,.int .i64 r.l,.int .i64 r.size,.int .i64 r.epoch,.slice r.sa r.sn r.sc,.slice r.na r.nn r.nc] 152)
 have HP:=hid (qcw S down a c rs r.name _ (hst.keeps hba nl))
 rw [hyes] at HP
 have hlt:=qbz hyes
 obtain ⟨g,cap,hv2,_,hg⟩:=qb4 h.row (by omega)
 have HS:=hid h
 obtain ⟨p,hp⟩:∃p,p=qai rs r.name:=⟨_,rfl⟩
 rw [←hp] at HP hlt ⊢
 have hSlt:=hst.lt
 rw [hv] at hv2
 obtain ⟨rfl,_,rfl⟩:=(by simpa using hv2:a=some ⟨g,0,none⟩∧True∧c=cap)
 have HV:=hid hv
 have HPP:=hid hp
 have hle:=h.le
 clear h hyes hst hp hv
 unfold RecV.val
 go_enter Tryz.func183,Tryz.ntmps183
 go_wp2_with fail
 refine HP.out.mono ?_
 rintro e w1 ⟨rfl,hb1⟩
 have hb01:Below w.heap.size w w1:=hba.trans (hb1.mono (by simp))
 have hS1:=HS.out.keeps (qaa.ofBelow (own:=fun _=>False) hb01 nl) (fun h=>h) (fun _ _ h=>h)
 have HS1:=hid hS1
 have c1:w1.cell? ⟨S,1,none⟩=some (.slice (some ⟨g,0,none⟩) rs.length c):=by rw [cells_at hS1.hp,HV.out];rfl
 have hrow:=hS1.row
 rw [HV.out] at hrow
 have k7:∃x,w1.cell? ⟨g,p*8+7,none⟩=some x:=by
  rw [hrow.cellAt _ (by omega)]
  exact ⟨_,List.getElem?_eq_getElem (by rw [qah];omega)⟩
 obtain ⟨x7,k7⟩:=k7
 have f7:w1.frozen? ⟨g,p*8+7,none⟩=false:=hrow.frozenAt _
 have HROW:=hid hrow
 have hc1:∀o,w1.cell? ⟨w.heap.size,o,none⟩=_:=fun o=>(qbM hb1).1 w.heap.size o (by simp)
 have hlt':(p:Int)<(rs.length:Int):=by omega
 have HLT:=hid hlt
 generalize hn:rs.length=n at *
 have HN:=hid hn
 clear hS1 hrow hn hlt
 go_wp2_with fail
 go_region
 have hne:S≠g:=fun e=>HS1.out.ne g (by rw [HV.out];rfl) e.symm
 refine bodyPost_end (by simp [results,Tryz.results183,go_sem]) rfl ⟨rfl,Sto.drew ⟨?_,?_,?_,?_⟩,?_⟩
 ·rw [Below.heap_setCell _ _ _ _ hne];exact HS1.out.hp
 ·rw [List.length_set,HN.out,HV.out,←qhk rs p 7 (.slice r.sa r.sn r.sc) _ (by rw [HN.out];exact HLT.out) (by decide) rfl]
  exact (HROW.out.stored _ _).1
 ·exact HS1.out.so.set p _ (by rw [HN.out];exact HLT.out) rfl
 ·rw [List.length_set];exact HS1.out.le
 ·exact ((qaa.ofBelow hb01 nl).setCell (by show v.ownBlock=some g;rw [HV.out];rfl) _).drew
section
variable {P:Program} {ops:Array Oper} {Q:Exit→Act→World→Prop} {md:Region.Mode}
theorem qeI (I:Array Bool→Act→World→Prop) (hacyc:∀(i:Nat) (o:Oper) (e:Edge),ops[i]?=some o→e∈o.after→e.on<i)
  (hstep:∀(listed:Array Bool) (a:Act) (w:World) (i:Nat) (o:Oper),I listed a w→listed.size=ops.size→ops[i]?=some o→listed.getD i false=false→(∀e∈o.after,Region.binds md e=true→listed.getD e.on false=true)→wpOp P ops Q i (fun a' w'=>I (listed.setIfInBounds i true) a' w') a w)
  (hend:∀listed a w,I listed a w→(∀i,i<ops.size→listed.getD i false=true)→Q .normal a w) :
  ∀(fuel:Nat) (listed:Array Bool) (a:Act) (w:World),listed.size=ops.size→todo ops listed≤fuel→I listed a w→wpAny P md ops Q fuel listed a w:=by
 intro fuel
 induction fuel with
 | zero =>
  intro listed a w hs hf hI
  have hall:∀i,i<ops.size→listed.getD i false=true:=by
   intro i hi
   have h0:todo ops listed=0:=by omega
   unfold todo at h0
   rw [List.countP_eq_zero] at h0
   have:=h0 i (List.mem_range.2 hi)
   rw [←qbe (by omega)]
   simpa using this
  refine ⟨?_,hend _ _ _ hI hall⟩
  cases hr:Region.ready md ops listed with
  | nil=>rfl
  | cons j r =>
   have hj:j∈Region.ready md ops listed:=by rw [hr];exact List.mem_cons_self ..
   obtain ⟨h0,o,ho,_⟩:=mem_ready.1 hj
   have hjs:j<ops.size:=(Array.getElem?_eq_some_iff.1 ho).1
   rw [qbe (by omega),hall j hjs] at h0
   cases h0
 | succ fuel ih =>
  intro listed a w hs hf hI
  refine ⟨fun hr=>hend _ _ _ hI (qff hacyc hs hr),fun i hi=>?_⟩
  obtain ⟨h0,o,ho,hall⟩:=mem_ready.1 hi
  have his:i<ops.size:=(Array.getElem?_eq_some_iff.1 ho).1
  refine wpOp_mono (fun a' w' h'=>ih _ a' w' (by simpa using hs) ?_ h') (hstep listed a w i o hI hs ho (by rw [←qbe (by omega)];exact h0) hall)
  have:todo ops (listed.setIfInBounds i true)<todo ops listed:=by
   unfold todo
   refine qcO _ _ _ (fun x _ hx=>?_) i (List.mem_range.2 his) (by rw [h0];rfl) (by simp [show i<listed.size by omega])
   by_cases hxi:i=x
   ·subst hxi;rw [h0];rfl
   ·rw [getD_set_ne true hxi] at hx;exact hx
  omega
def qeU (ops:Array Oper) (slot:Nat→Nat) (N m:Nat) (keys:List Nat):Bool :=
 ops.size == m+1 && (List.range m).all fun i=>match ops[i]? with
  | none=>false
  | some o=>o.dst == some (slot i) && decide (slot i<N) && o.guard.isNone && keys.all (fun k=>k != slot i) && o.after.all (fun e=>decide (e.on<i) && Region.binds .any e) && ((List.range m).all fun j=>slot i != slot j || i == j) &&
   (List.range (m+1)).any fun k=>decide (i<k) && (match ops[k]? with | none=>false | some o'=>o'.after.any fun e=>e.on == i)
def qbX (ops:Array Oper) (m:Nat):Bool:=match ops[m]? with
 | none=>false
 | some o=>o.guard.isNone && o.after.all fun e=>decide (e.on<m) && Region.binds .any e
theorem qbp {id:Nat} {a:Act} {w:World} (hm:P.follows .mixedOrders=true) (slot:Nat→Nat) (R:Nat→Value→World→Prop) (fixed:List (Nat × Value)) (N m:Nat) (keys:List Nat)
  (hok:qeU ops slot N m keys=true) (hle:qbX ops m=true) (hk:fixed.map Prod.fst=keys)
  (ha:a.defers=[]) (hN:a.tmps.size=N) (hfx:∀p∈fixed,a.tmps.getD p.1 undef=p.2)
  (hper:∀j v w w',R j v w→Below w.heap.size w w'→R j v w')
  (hstep:qcx P slot R fixed { w with drawn:=w.drawn+1 } 0 (ops.toList.take m))
  (hlast:∀a w' o,ops[m]?=some o→a.defers=[]→a.tmps.size=N→Below w.heap.size { w with drawn:=w.drawn+1 } w'→(∀p∈fixed,a.tmps.getD p.1 undef=p.2)→(∀j,j<m→R j (a.tmps.getD (slot j) undef) w')→o.wp P a w' (fun a' w''=>Q .normal a' w'') Q) :
  (Code.region id ops true).wp P Q a w:=by
 unfold qeU at hok
 rw [Bool.and_eq_true] at hok
 obtain ⟨hsz,hok⟩:=hok
 have hsz:ops.size=m+1:=by simpa using hsz
 rw [List.all_eq_true] at hok
 have hops:∀(i:Nat) (o:Oper),i<m→ops[i]?=some o→o.dst=some (slot i)∧slot i<N∧o.guard=none∧(∀p∈fixed,p.1≠slot i)∧(∀e∈o.after,e.on<i∧Region.binds .any e=true)∧(∀j,j<m→slot i=slot j→i=j)∧∃k o',i<k∧k≤m∧ops[k]?=some o'∧∃e∈o'.after,e.on=i:=by
  intro i o hi ho
  have:=hok i (List.mem_range.2 hi)
  simp only [ho,Bool.and_eq_true,beq_iff_eq,decide_eq_true_eq,Option.isNone_iff_eq_none,List.all_eq_true,bne_iff_ne,ne_eq,Array.all_eq_true_iff_forall_mem,Bool.or_eq_true,List.mem_range,List.any_eq_true] at this
  obtain ⟨⟨⟨⟨⟨⟨h1,h2⟩,h3⟩,h4⟩,h5⟩,h6⟩,k,hk1,hk2,hk3⟩:=this
  refine ⟨h1,h2,h3,fun p hp=>h4 p.1 (by rw [←hk];exact List.mem_map_of_mem hp),h5,fun j hj he=>?_,k,?_⟩
  ·rcases h6 j hj with h | h
   ·exact absurd he h
   ·exact h
  ·cases hk4:ops[k]? with
   | none=>rw [hk4] at hk3;cases hk3
   | some o' =>
    rw [hk4] at hk3
    simp only [Array.any_eq_true',beq_iff_eq] at hk3
    exact ⟨o',hk2,by omega,rfl,hk3⟩
 obtain ⟨ol,hol⟩:∃ol,ops[m]?=some ol:=⟨ops[m],by simp [hsz]⟩
 unfold qbX at hle
 rw [hol] at hle
 simp only [Bool.and_eq_true,Option.isNone_iff_eq_none,Array.all_eq_true_iff_forall_mem,decide_eq_true_eq] at hle
 have hidx:∀i o,ops[i]?=some o→i<m∨i=m:=fun i o ho=>by have:=(Array.getElem?_eq_some_iff.1 ho).1;omega
 refine wp_region_any hm (qeI (fun listed a' w'=>(listed.getD m false=true∧(∀i,i<ops.size→listed.getD i false=true)∧Q .normal a' w')∨(listed.getD m false=false∧(∀(i:Nat) (o:Oper),ops[i]?=some o→listed.getD i false=true→∀e∈o.after,listed.getD e.on false=true)∧RI slot (fun j v w'=>j<m→R j v w') fixed N { w with drawn:=w.drawn+1 } listed a' w')) ?_ ?_ ?_ ops.size _ _ _ (by simp) (by unfold todo;exact Nat.le_trans (List.countP_le_length ..) (by simp)) (.inr ⟨?_,?_,ha,hN,bl,hfx,?_⟩))
 ·intro i o e ho he
  rcases hidx i o ho with hi | rfl
  ·exact ((hops i o hi ho).2.2.2.2.1 e he).1
  ·rw [hol] at ho;cases ho;exact (hle.2 e he).1
 ·intro listed a1 w1 i o hI hs ho hno hall
  rcases hI with ⟨_,h2,_⟩|⟨hm0,hcl,hI⟩
  ·rw [h2 i ((Array.getElem?_eq_some_iff.1 ho).1)] at hno;cases hno
  rcases hidx i o ho with hi | him
  ·obtain ⟨h1,h2,h3,h4,h5,h6,_⟩:=hops i o hi ho
   have hok:=hstep.at (P:=P) (ops.toList.take m) 0 i o (by rw [List.getElem?_take,if_pos hi];simpa using ho) a1 w1 hI.bl hI.fx (fun e he=>hI.rs _ (hall e he (h5 e he).2) (by have:=(h5 e he).1;omega))
   rw [Nat.zero_add] at hok
   unfold wpOp
   simp only [ho,Region.wanted,h3,if_true]
   refine .inl (hok.wp fun v w'' hp=>.inr ⟨?_,?_,?_⟩)
   ·rw [getD_set_ne false (by omega)];exact hm0
   ·intro j oj hoj hj e he
    by_cases hji:i=j
    ·subst hji
     rw [ho] at hoj;cases hoj
     have:=(h5 e he).1
     rw [getD_set_ne false (by omega)]
     exact hall e he (h5 e he).2
    ·rw [getD_set_ne false hji] at hj
     have:=hcl j oj hoj hj e he
     by_cases hei:i=e.on
     ·rw [←hei];simp [show i<listed.size by omega]
     ·rw [getD_set_ne false hei];exact this
   ·rw [h1]
    refine ⟨hI.df,by simp [Act.put,hI.sz],hI.bl.trans (hp.1.mono hI.bl.size),fun p hp'=>?_,fun j hj hjm=>?_⟩
    ·have:=hI.fx p hp'
     simp only [Act.put]
     rw [←this]
     simp [Array.getElem?_setIfInBounds_ne (Ne.symm (h4 p hp'))]
    ·by_cases hji:i=j
     ·subst hji
      simp only [Act.put]
      have hz:slot i<a1.tmps.size:=by rw [hI.sz];exact h2
      simpa [hz] using hp.2
     ·rw [getD_set_ne false hji] at hj
      have hsl:slot i≠slot j:=fun e=>hji (h6 j hjm e)
      simp only [Act.put]
      have:=hper j _ _ _ (hI.rs j hj hjm) hp.1
      simpa [Array.getElem?_setIfInBounds_ne hsl] using this
  ·have him':m=i:=him.symm
   subst him'
   rw [hol] at ho;cases ho
   have hlisted:∀d j,j+d=m→j<m→listed.getD j false=true:=by
    intro d
    induction d using Nat.strongRecOn with
    | ind d ih =>
     intro j hd hj
     obtain ⟨oj,hoj⟩:∃oj,ops[j]?=some oj:=⟨ops[j],by simp [show j<ops.size by omega]⟩
     obtain ⟨k,ok,hk1,hk2,hk3,e,he,hej⟩:=(hops j oj hj hoj).2.2.2.2.2.2
     rw [←hej]
     rcases Nat.lt_or_ge k m with hkm | hkm
     ·exact hcl k ok hk3 (ih (m-k) (by omega) k (by omega) hkm) e he
     ·have:k=m:=by omega
      subst this
      rw [hol] at hk3;cases hk3
      exact hall e he (hle.2 e he).2
   unfold wpOp
   simp only [hol,Region.wanted,hle.1,if_true]
   refine .inl (Oper.wp_mono (fun a' w'' h=>?_) (hlast a1 w1 ol hol hI.df hI.sz hI.bl hI.fx (fun j hj=>hI.rs j (hlisted (m-j) j (by omega) hj) hj)))
   refine .inl ⟨by simp [show m<listed.size by omega],fun j hj=>?_,h⟩
   by_cases hji:m=j
   ·subst hji;simp [show m<listed.size by omega]
   ·rw [getD_set_ne false hji];exact hlisted (m-j) j (by omega) (by omega)
 ·intro listed a1 w1 hI hall
  rcases hI with ⟨_,_,h⟩|⟨h0,_⟩
  ·exact h
  ·rw [hall m (by omega)] at h0;cases h0
 ·simp [Array.getElem?_replicate];split<;>simp
 ·intro i o _ hi;simp [Array.getElem?_replicate] at hi;split at hi<;>simp at hi
 ·intro j hj;simp [Array.getElem?_replicate] at hj;split at hj<;>simp at hj
end
theorem qaF {P:Program} {o:Oper} {a:Act} {w:World} {K:Act→World→Prop} {Q:Exit→Act→World→Prop} (ty:TypeId) (x y:Operand) (ho:o.op=.store ty x y)
  (b off:Nat) (u:Value) (hx:a.eval x=.pointer (some ⟨b,off,none⟩)) (hy:a.eval y=u) (hu:u.oneCell'=true) (huc:u.cells=#[u]) (hi:(P.info? ty).map (·.size)=some 1)
  (old:Value) (hc:w.cell? ⟨b,off,none⟩=some old) (hf:w.frozen? ⟨b,off,none⟩=false)
  (h:K (a.put o.dst undef) (w.setCell ⟨b,off,none⟩ u)):o.wp P a w K Q:=by
 have hv:(storeVar ty ⟨b,off,none⟩ u).run P w=.ok () (w.setCell ⟨b,off,none⟩ u):=by
  cases hq:P.info? ty with
  | none=>simp [hq] at hi
  | some i =>
   have hs':i.size=1:=by simpa [hq] using hi
   simp [storeVar,sizeOf,typeInfo,hq,huc,hs',storeCells,Addr.add]
   rw [run_store P w _ _ _ hu]
   simp [hc,hf]
 unfold Oper.wp execOp
 simp only [ho,hx,hy,Instr.storeAt,Instr.sureAddr,Sem.run_bind,Sem.run_pure,Result.andThen_ok,hv]
 exact h
theorem qh0 (r:RecV) (ad:Addr) (w:World) (hna:r.na=some ad) (he:r.epoch≤1000) :
  Calls Tryz.prog 223 #[.agg #[.string r.name,.int .i64 r.mode,.int .i64 r.t,.int .i64 r.l,.int .i64 r.size,.int .i64 r.epoch,.slice r.sa r.sn r.sc,.slice r.na r.nn r.nc]] w fun e w' =>
   e=.returned (.agg #[.string r.name,.int .i64 r.mode,.int .i64 r.t,.int .i64 r.l,.int .i64 r.size,.int .i64 ((r.epoch:Int)+1)])∧Below w.heap.size w w':=by
 obtain ⟨name,mode,t,l,size,epoch,sa,sn,sc,na,nn,nc⟩:=r
 simp only at hna he ⊢
 subst hna
 go_enter Tryz.func223,Tryz.ntmps223
 go_wp2
 refine bodyPost_ret (v:=.agg #[.string name,.int .i64 mode,.int .i64 t,.int .i64 l,.int .i64 size,.int .i64 ((epoch:Int)+1)]) ?_ rfl ⟨rfl,?_⟩
 ·simp [results,Tryz.results223,go_sem]
 ·exact ((Below.refl _ _).alloc nl _).alloc (by simp) _
theorem qeC (rs:List RecV) (p:Nat) (r':RecV) (hp:p<rs.length):recs (rs.set p r')=(recs rs).take (p*8)++r'.cells++(recs rs).drop (p*8+8):=by
 induction rs generalizing p with
 | nil=>simp at hp
 | cons r rs ih =>
  cases p with
  | zero =>
   simp only [recs,List.flatMap_cons,List.set_cons_zero,Nat.zero_mul,Nat.zero_add,List.take_zero,List.nil_append]
   rw [List.drop_append_of_le_length (by simp [RecV.cells]),List.drop_of_length_le (by simp [RecV.cells]),List.nil_append]
  | succ p =>
   have:=ih p (by simpa using hp)
   simp only [recs,List.flatMap_cons,List.set_cons_succ] at this ⊢
   have hl:r.cells.length=8:=rfl
   rw [this,List.take_append,List.drop_append,List.take_of_length_le (l:=r.cells) (by omega),List.drop_of_length_le (l:=r.cells) (by omega),hl,show (p+1)*8-8=p*8 by omega,show (p+1)*8+8-8=p*8+8 by omega]
   simp [List.append_assoc]
theorem qbN {P:Program} {o:Oper} {a:Act} {w:World} {K:Act→World→Prop} {Q:Exit→Act→World→Prop} (ty:TypeId) (x y:Operand) (ho:o.op=.store ty x y)
  (g off:Nat) (cells:Array Value) (hx:a.eval x=.pointer (some ⟨g,off,none⟩)) (hy:a.eval y=.agg cells)
  (t:TypeId) (old:Array Value) (hg:w.heap[g]?=some (.cells old t (0,0))) (hi:(P.info? ty).map (·.size)=some cells.size)
  (hold:off+cells.size≤old.size) (h1:cells.all (·.oneCell')=true)
  (h:K (a.put o.dst undef) (w.setRow g (old.toList.take off++cells.toList++old.toList.drop (off+cells.size)).toArray)):o.wp P a w K Q:=by
 have hs:=run_storeCells_at P g off t cells.toList 0 old w hg (by simpa using hold) (fun v hv=>(Array.all_eq_true_iff_forall_mem.1 h1) v (by simpa using hv))
 simp only [Nat.add_zero,Array.length_toList] at hs
 have hv:(storeVar ty ⟨g,off,none⟩ (.agg cells)).run P w=.ok () (w.setRow g (old.toList.take off++cells.toList++old.toList.drop (off+cells.size)).toArray):=by
  cases hq:P.info? ty with
  | none=>simp [hq] at hi
  | some i =>
   have hs':cells.size=i.size:=by simp [hq] at hi;omega
   simp [storeVar,sizeOf,typeInfo,hq,Value.cells,hs',hs]
 unfold Oper.wp execOp
 simp only [ho,hx,hy,Instr.storeAt,Instr.sureAddr,Sem.run_bind,Sem.run_pure,Result.andThen_ok,hv]
 exact h
theorem qcV {w:World} {base g n c:Nat} {rs:List RecV} (h:w.ownsRow base 152 8 (.slice (some ⟨g,0,none⟩) n c) n (recs rs)) (p:Nat) (hp:p<rs.length) :
  ∃old,w.heap[g]?=some (.cells old 152 (0,0))∧p*8+8≤old.size∧∀r':RecV,(w.setRow g (old.toList.take (p*8)++r'.cells++old.toList.drop (p*8+8)).toArray).ownsRow base 152 8 (.slice (some ⟨g,0,none⟩) n c) n (recs (rs.set p r')):=by
 obtain ⟨h1,h2 | ⟨g',cap,cur,hv,h3,h4,h5,h6,h7,h8⟩⟩:=h
 ·simp at h2
 ·cases hv
  rw [qah] at h1
  refine ⟨cur,h4,by omega,fun r'=>⟨by rw [qah,List.length_set];exact h1,.inr ⟨g,c,_,rfl,h3,setRow_heap w g cur _ _ _ h4,h5,h6,?_,?_⟩⟩⟩
  ·simp [RecV.cells]
   omega
  ·rw [qeC rs p r' hp,←h8]
   simp only [List.take_append,List.length_append,List.length_take,Array.length_toList]
   have e1:min (p*8) cur.size=p*8:=by omega
   have e2:r'.cells.length=8:=rfl
   rw [e1,e2,List.take_of_length_le (by simp;omega),List.take_of_length_le (l:=r'.cells) (by rw [e2];omega),List.take_take,Nat.min_eq_left (by omega),List.drop_take]
def qlh (S g p n c W:Nat) (ad:Addr) (q:RecV):Nat→Value→World→Prop
 | 0,v,_=>v=.pointer (some ⟨S,0,none⟩)
 | 1,v,_=>v=.pointer (some ⟨S,0,none⟩)
 | 2,v,_=>v=.pointer (some ⟨S,1,none⟩)
 | 3,v,_=>v=.slice (some ⟨g,0,none⟩) n c
 | 4,v,_=>v=.int .i64 p
 | 5,v,_=>v=.agg #[.string q.name,.int .i64 q.mode,.int .i64 q.t,.int .i64 q.l,.int .i64 q.size,.int .i64 q.epoch,.slice q.sa q.sn q.sc,.slice (some ad) q.nn q.nc]
 | 6,v,_=>v=.agg #[.string q.name,.int .i64 q.mode,.int .i64 q.t,.int .i64 q.l,.int .i64 q.size,.int .i64 ((q.epoch:Int)+1)]
 | 7,v,_=>v=.pointer (some ⟨W,6+1,none⟩)
 | 8,v,_=>v=.slice (some ad) q.nn q.nc
 | 9,v,_=>v=.agg #[.string q.name,.int .i64 q.mode,.int .i64 q.t,.int .i64 q.l,.int .i64 q.size,.int .i64 ((q.epoch:Int)+1),.slice (some ad) q.nn q.nc,.slice none 0 0]
 | 10,v,_=>v=.pointer (some ⟨g,p*8,none⟩)
 | _,_,_=>True
theorem qkB (S:Nat) (down:Bool) (v:Value) (rs:List RecV) (r q:RecV) (ad:Addr) (w:World) (h:Sto w S down v rs) (hyes:hasName rs r.name=true) (hq:q=rs[qai rs r.name]!) (hna:q.na=some ad) (he:q.epoch≤1000) :
  Calls Tryz.prog 184 #[.pointer (some ⟨S,0,none⟩),r.val] w fun e w' =>
   e=.returned (.tuple #[])∧Sto w' S down v (rs.set (qai rs r.name) q.turned)∧qaa (fun b=>v.ownBlock=some b) w w':=by
 obtain ⟨a,c,hv,hst⟩:=h.st
 have hba:=(Below.refl w.heap.size w).alloc nl (.cells #[.string r.name,.int .i64 r.mode,.int .i64 r.t,.int .i64 r.l,.int .i64 r.size,.int .i64 r.epoch,.slice r.sa r.sn r.sc,.slice r.na r.nn r.nc] 152)
 have HP:=hid (qcw S down a c rs r.name _ (hst.keeps hba nl))
 rw [hyes] at HP
 have hlt:=qbz hyes
 obtain ⟨g,cap,hv2,_,hg⟩:=qb4 h.row (by omega)
 have HS:=hid h
 obtain ⟨p,hp⟩:∃p,p=qai rs r.name:=⟨_,rfl⟩
 rw [←hp] at HP hlt hq ⊢
 have hSlt:=hst.lt
 rw [hv] at hv2
 obtain ⟨rfl,_,rfl⟩:=(by simpa using hv2:a=some ⟨g,0,none⟩∧True∧c=cap)
 have HV:=hid hv
 have HPP:=hid hp
 have hle:=h.le
 have HLN:=hid (fun w'=>qh0 q ad w' hna he)
 have HQ:=hid hq
 have HNA:=hid hna
 have HE:=hid he
 clear h hyes hst hp hv hq he
 unfold RecV.val
 go_enter Tryz.func184,Tryz.ntmps184
 go_wp2_with fail
 refine HP.out.mono ?_
 rintro e w1 ⟨rfl,hb1⟩
 have hb01:Below w.heap.size w w1:=hba.trans (hb1.mono (by simp))
 have hS1:=HS.out.keeps (qaa.ofBelow (own:=fun _=>False) hb01 nl) (fun h=>h) (fun _ _ h=>h)
 have HS1:=hid hS1
 have c1:w1.cell? ⟨S,1,none⟩=some (.slice (some ⟨g,0,none⟩) rs.length c):=by rw [cells_at hS1.hp,HV.out];rfl
 have hrow:=hS1.row
 rw [HV.out] at hrow
 obtain ⟨_,_,hv3,hrd⟩:=qad hrow
 cases hv3
 obtain ⟨_,k0,k1,k2,k3,k4,k5,k6,k7⟩:=qcY hrd p hlt
 rw [←HQ.out,Nat.zero_add] at k0 k1 k2 k3 k4 k5 k6 k7
 have hf:∀o,w1.frozen? ⟨g,o,none⟩=false:=fun o=>hrow.frozenAt _
 have HROW:=hid hrow
 have hlt':(p:Int)<(rs.length:Int):=by omega
 have HLT:=hid hlt
 have hz1:w.heap.size<w1.heap.size:=by have:=hb1.size;simp at this;omega
 have hg1:g<w1.heap.size:=by omega
 have hS1lt:S<w1.heap.size:=by omega
 generalize hn:rs.length=n at *
 have HN:=hid hn
 rw [hna] at k7
 clear hS1 hrow hn hlt hrd hb1
 go_wp2_with fail
 obtain ⟨w2,hw2⟩:∃w2,w2=w1.alloc (.cells #[.string q.name,.int .i64 q.mode,.int .i64 q.t,.int .i64 q.l,.int .i64 q.size,.int .i64 q.epoch,.slice q.sa q.sn q.sc,.slice (some ad) q.nn q.nc] 152):=⟨_,rfl⟩
 have hb12:Below w1.heap.size w1 w2:=by rw [hw2];exact (Below.refl _ _).alloc nl _
 have hz2:w2.heap.size=w1.heap.size+1:=by rw [hw2];simp
 have o0:w2.cell? ⟨w1.heap.size,0,none⟩=some (.string q.name):=by rw [hw2];simp
 have o1:w2.cell? ⟨w1.heap.size,1,none⟩=some (.int .i64 q.mode):=by rw [hw2];simp
 have o2:w2.cell? ⟨w1.heap.size,2,none⟩=some (.int .i64 q.t):=by rw [hw2];simp
 have o3:w2.cell? ⟨w1.heap.size,3,none⟩=some (.int .i64 q.l):=by rw [hw2];simp
 have o4:w2.cell? ⟨w1.heap.size,4,none⟩=some (.int .i64 q.size):=by rw [hw2];simp
 have o5:w2.cell? ⟨w1.heap.size,5,none⟩=some (.int .i64 q.epoch):=by rw [hw2];simp
 have o6:w2.cell? ⟨w1.heap.size,6,none⟩=some (.slice q.sa q.sn q.sc):=by rw [hw2];simp
 have o7:w2.cell? ⟨w1.heap.size,7,none⟩=some (.slice (some ad) q.nn q.nc):=by rw [hw2];simp
 have c1':w2.cell? ⟨S,1,none⟩=some (.slice (some ⟨g,0,none⟩) n c):=(hb12.cell hS1lt).trans c1
 rw [←hw2]
 have HE3:=hid hb12
 have HF:=hid hf
 rw [hna] at HLN
 clear hw2 k0 k1 k2 k3 k4 k5 k6 k7 hf c1
 have HFX:∀a:Act,(∀x∈[((0:Nat),Value.pointer (some ⟨S,0,none⟩)),(4,.int .i64 p),(6,.pointer (some ⟨w1.heap.size,0,none⟩))],a.tmps.getD x.1 undef=x.2)→a.tmps[0]?.getD undef=.pointer (some ⟨S,0,none⟩)∧a.tmps[4]?.getD undef=.int .i64 p∧a.tmps[6]?.getD undef=.pointer (some ⟨w1.heap.size,0,none⟩):=by
  intro a h
  simpa using h
 have HCELL:∀w':World,Below w2.heap.size { w2 with drawn:=w2.drawn+1 } w'→w'.cell? ⟨S,1,none⟩=some (.slice (some ⟨g,0,none⟩) n c)∧w'.cell? ⟨w1.heap.size,0,none⟩=some (.string q.name)∧w'.cell? ⟨w1.heap.size,1,none⟩=some (.int .i64 q.mode)∧w'.cell? ⟨w1.heap.size,2,none⟩=some (.int .i64 q.t)∧w'.cell? ⟨w1.heap.size,3,none⟩=some (.int .i64 q.l)∧w'.cell? ⟨w1.heap.size,4,none⟩=some (.int .i64 q.size)∧w'.cell? ⟨w1.heap.size,5,none⟩=some (.int .i64 q.epoch)∧w'.cell? ⟨w1.heap.size,6,none⟩=some (.slice q.sa q.sn q.sc)∧w'.cell? ⟨w1.heap.size,7,none⟩=some (.slice (some ad) q.nn q.nc):=by
  intro w' hb
  have e:∀b o,b<w2.heap.size→w'.cell? ⟨b,o,none⟩=w2.cell? ⟨b,o,none⟩:=fun b o h=>hb.cell h
  exact ⟨(e _ _ (by omega)).trans c1',(e _ _ (by omega)).trans o0,(e _ _ (by omega)).trans o1,(e _ _ (by omega)).trans o2,(e _ _ (by omega)).trans o3,(e _ _ (by omega)).trans o4,(e _ _ (by omega)).trans o5,(e _ _ (by omega)).trans o6,(e _ _ (by omega)).trans o7⟩
 refine qbp (by kernel_rfl) (fun i=>i+34) (qlh S g p n c w1.heap.size ad q) [(0,.pointer (some ⟨S,0,none⟩)),(4,.int .i64 p),(6,.pointer (some ⟨w1.heap.size,0,none⟩))] 45 11 [0,4,6] (by kernel_rfl) (by kernel_rfl) rfl rfl rfl ?_ ?_ ?_ ?_
 ·simp
 ·intro j v w w' hr _
  unfold qlh at hr ⊢
  split at hr<;>exact hr
 ·refine ⟨?_,?_,?_,?_,?_,?_,?_,?_,?_,?_,?_,trivial⟩
  all_goals
   intro a w' hb hf hd
   obtain ⟨f0,f4,f6⟩:=HFX a hf
   obtain ⟨c1,k0,k1,k2,k3,k4,k5,k6,k7⟩:=HCELL w' hb
   simp [qlh] at hd
   try (refine .inl ⟨_,w',?_,bl,rfl⟩;go_simp;done)
  ·refine .inr ⟨223,#[.agg #[.string q.name,.int .i64 q.mode,.int .i64 q.t,.int .i64 q.l,.int .i64 q.size,.int .i64 q.epoch,.slice q.sa q.sn q.sc,.slice (some ad) q.nn q.nc]],by go_simp,(HLN.out w').mono ?_⟩
   rintro e w'' ⟨rfl,hb2⟩
   exact ⟨_,rfl,hb2,rfl⟩
 ·intro a w' ol hol hdf hsz hb hf hr
  cases hol
  have r9:=hr 9 (by decide)
  have r10:=hr 10 (by decide)
  simp [qlh] at r9 r10
  have hgne:g<w2.heap.size:=by omega
  have hrow':w'.ownsRow 0 152 8 (.slice (some ⟨g,0,none⟩) n c) n (recs rs):=qab HROW.out (qaa.ofBelow (own:=fun _=>False) (HE3.out.drew.trans (hb.mono (by show w1.heap.size≤w2.heap.size;omega))) nl) (fun _ _ h=>h)
  obtain ⟨old,ho1,ho2,ho3⟩:=qcV hrow' p (by rw [HN.out];exact HLT.out)
  refine qbN 152 (.tmp 44) (.tmp 43) rfl g (p*8) #[.string q.name,.int .i64 q.mode,.int .i64 q.t,.int .i64 q.l,.int .i64 q.size,.int .i64 ((q.epoch:Int)+1),.slice (some ad) q.nn q.nc,.slice none 0 0] (by simp [Act.eval];exact r10) (by simp [Act.eval];exact r9) _ old ho1 Tryz.cellsRec ho2 (by simp [Value.oneCell']) ?_
  have hsto:=ho3 q.turned
  have ec:q.turned.cells=(#[Value.string q.name,.int .i64 q.mode,.int .i64 q.t,.int .i64 q.l,.int .i64 q.size,.int .i64 ((q.epoch:Int)+1),.slice (some ad) q.nn q.nc,.slice none 0 0]:Array Value).toList:=by
   simp [RecV.turned,RecV.cells,HNA.out]
  rw [ec] at hsto
  have hbx:Below w.heap.size w w':=hb01.trans ((HE3.out.mono hb01.size).drew.trans (hb.mono (by show w.heap.size≤w2.heap.size;omega)))
  have hgS:g≠S:=HS1.out.ne g (by rw [HV.out];rfl)
  refine bodyPost_end (by simp [results,Tryz.results184,go_sem]) hdf ⟨rfl,⟨?_,?_,?_,?_⟩,?_⟩
  ·rw [setRow_other _ _ _ _ (Ne.symm hgS),hbx.block S hSlt];exact HS.out.hp
  ·rw [List.length_set,HN.out,HV.out];exact hsto
  ·exact HS1.out.so.set p _ (by rw [HN.out];exact HLT.out) (by rw [HQ.out];rfl)
  ·rw [List.length_set];exact HS1.out.le
  ·have hx:qaa (fun b=>v.ownBlock=some b) w w':=qaa.ofBelow hbx nl
   exact hx.trans ⟨rfl,rfl,rfl,by simp,fun k _ ho=>setRow_other _ _ _ _ fun e=>ho (by rw [HV.out,e];rfl)⟩
theorem Tryz.infoR:(Tryz.prog.info? 152).map (fun i=>(i.zero,i.size,i.bytes))=some (some (.agg #[.string ByteArray.empty,.int .i64 0,.int .i64 0,.int .i64 0,.int .i64 0,.int .i64 0,.slice none 0 0,.slice none 0 0]),8,104):=by kernel_rfl
theorem qkZ (r:RecV):recs [r]=r.cells:=by simp [recs]
theorem qhW:Sorted []:=fun i j _ h2=>by simp at h2
theorem qal {B:Nat} {w w':World} {base n size:Nat} {e:TypeId} {L:List Value} {v:Value} (h:w.ownsRow base e size v n L) (hb:Below B w w') (hB:w.heap.size≤B):w'.ownsRow base e size v n L :=
 qab h (qaa.ofBelow (own:=fun _=>False) hb hB) (fun _ _ h=>h)
theorem qhF {P:Program} {f:FuncId} {fn:Func} {c:Code} (hf:P.funcs[f]?=some fn) (hname:(fn.name == "runtime.NumGoroutine")=false) (hb:fn.body=some c) (args:Array Value) (w:World):(callFunc f args).run P w=.ok (.enter f args) w:=by
 have h1:fn.name ≠ "runtime.NumGoroutine" := by simpa using hname
 simp [callFunc,hf,h1,hb]
theorem Tryz.callAdd (args:Array Value) (w:World):(callFunc 155 args).run Tryz.prog w=.ok (.enter 155 args) w:=qhF Tryz.func155 (by kernel_rfl) rfl args w
theorem Tryz.callLay (args:Array Value) (w:World):(callFunc 183 args).run Tryz.prog w=.ok (.enter 183 args) w:=qhF Tryz.func183 (by kernel_rfl) rfl args w
theorem Tryz.callTurn (args:Array Value) (w:World):(callFunc 184 args).run Tryz.prog w=.ok (.enter 184 args) w:=qhF Tryz.func184 (by kernel_rfl) rfl args w
end Go.Proofs.YtcegdgmbponapaaGreatDoor