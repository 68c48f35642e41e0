/-
  What is done to a store: Add, to one where nothing lies.
  The writes of a call, one after another, where none crashes.
  A vault is opened.
  errors.Is over places: is it of that kind?
-/
import Derived.Test.YtcegdgmbponapabGreatDoorPart08
import Derived.Deep.Onto
namespace Go.Proofs.YtcegdgmbponapabGreatDoor
open Go.RowKit
attribute [local go_sem ↓] Go.wp_at_zero Go.wp_at_succ
theorem Tryz.infoR:(Tryz.prog.info? 127).map (fun i=>(i.zero,i.size,i.bytes))=some (some (.agg #[.string ByteArray.empty,.int .i64 0,.int .i64 0,.int .i64 0,.int .i64 0,.int .i64 0,.slice none 0 0,.slice none 0 0]),8,104):=by kernel_rfl
theorem recs_one (r:RecV):recs [r]=r.cells:=by simp [recs]
theorem sorted_nil:Sorted []:=fun i j _ h2=>by simp at h2
theorem owns_below_size {B:Nat} {w w':World} {base n size:Nat} {e:TypeId} {L:List Value} {v:Value} (h:w.ownsRow base e size v n L) (hb:Below B w w') (hB:w.heap.size≤B):w'.ownsRow base e size v n L :=
 owns_spared h (Spared.ofBelow (own:=fun _=>False) hb hB) (fun _ _ h=>h)
theorem callFn {P:Program} {f:FuncId} {fn:Func} {c:Code} (hf:P.funcs[f]?=some fn) (hname:(fn.name == "runtime.NumGoroutine")=false) (hb:fn.body=some c) (args:Array Value) (w:World):(callFunc f args).run P w=.ok (.enter f args) w:=by
 have h1:fn.name ≠ "runtime.NumGoroutine" := by simpa using hname
 simp [callFunc,hf,h1,hb]
theorem Tryz.callAdd (args:Array Value) (w:World):(callFunc 80 args).run Tryz.prog w=.ok (.enter 80 args) w:=callFn Tryz.func80 (by kernel_rfl) rfl args w
theorem Tryz.callLay (args:Array Value) (w:World):(callFunc 123 args).run Tryz.prog w=.ok (.enter 123 args) w:=callFn Tryz.func123 (by kernel_rfl) rfl args w
theorem Tryz.callTurn (args:Array Value) (w:World):(callFunc 124 args).run Tryz.prog w=.ok (.enter 124 args) w:=callFn Tryz.func124 (by kernel_rfl) rfl args w
theorem Tryz.infoP:(Tryz.prog.info? 97).map (fun i=>(i.zero,i.size,i.bytes))=some (some (.pointer none),1,8):=by kernel_rfl
theorem alloc_at (w:World) (o:Obj):(w.alloc o).heap[w.heap.size]?=some o:=by
 show (w.heap.push o)[w.heap.size]?=_
 simp
theorem row_ne {w:World} {base n size:Nat} {e e':TypeId} {L:List Value} {v:Value} {b:Nat} {cs:Array Value} (h:w.ownsRow base e size v n L) (hb:w.heap[b]?=some (.cells cs e')) (he:e≠e'):v.ownBlock≠some b:=by
 intro hv
 rcases h with ⟨_,⟨rfl,_⟩|⟨g,cap,cur,rfl,_,h4,_⟩⟩
 ·cases hv
 ·cases hv
  rw [h4] at hb
  simp at hb
  exact he hb.2
def ptrs (ps:List Nat):List Value:=ps.map fun p=>.pointer (some ⟨p,0,none⟩)
structure Opening (w:World) (key:Nat) (k:Nat) (ps:List Nat) (v:Value) (wr:World):Prop where
 len:ps.length=k
 hp:wr.heap[w.heap.size]?=some (.cells #[.int .u64 key,v,.int .i64 0,.bool false,.int .i64 0,.bool false] 96)
 row:wr.ownsRow w.heap.size 97 1 v k (ptrs ps)
 st:∀s∈ps,wr.heap[s]?=some (.cells #[.bool false,.slice none 0 0] 100)∧w.heap.size<s
 nd:ps.Nodup
 bl:Below w.heap.size w wr
set_option maxRecDepth 100000 in
set_option maxHeartbeats 1000000 in
theorem vopen_any (n key:Nat) (w:World) (h1:1≤n) (h8:n≤8) :
  Calls Tryz.prog 25 #[.int .i64 n,.int .u64 key] w fun e w'=>∃ps v,e=.returned (.pointer (some ⟨w.heap.size,0,none⟩))∧Opening w key n ps v w':=by
 obtain ⟨i0,hi,hz0,hz1,hz2⟩:=info_parts Tryz.infoP
 have e1:max (n:Int) 1=n:=by omega
 have e2:min (n:Int) 8=n:=by omega
 go_enter Tryz.func25,Tryz.ntmps25
 go_wp2_with fail
 go_loopw [12] (fun u wr=>∃(k:Nat) (ps:List Nat) (v:Value),k≤n∧u=.int .i64 k∧Opening w key k ps v wr) (fun u _=>n-(intOf u).toNat)
 case atStart=>exact ⟨0,[],.slice none 0 0,Nat.zero_le _,rfl,rfl,alloc_at _ _,⟨rfl,.inl ⟨rfl,rfl⟩⟩,nofun,List.nodup_nil,(Below.refl _ _).alloc (Nat.le_refl _) _⟩
 case round =>
  obtain ⟨k,ps,v,hk,rfl,hop⟩:=hrel
  by_cases hlt:k<n
  ·have c1:wr.cell? ⟨w.heap.size,1,none⟩=some v:=by rw [cells_at hop.hp];rfl
   obtain ⟨a,c,rfl,_⟩:=owns_rd_size hop.row
   have f1:wr.frozen? ⟨w.heap.size,1,none⟩=false:=cells_fz hop.hp
   have hz:w.heap.size<wr.heap.size:=cells_lt hop.hp
   have hlt':(k:Int)<(n:Int):=by omega
   have hba1:=(Below.refl wr.heap.size wr).alloc (Nat.le_refl _) (.cells #[.bool false,.slice none 0 0] 100)
   have hba2:=hba1.alloc (by simp) (.cells #[.pointer (some ⟨wr.heap.size,0,none⟩)] 97)
   have HRW:=hid (owns_below_size hop.row hba2 (Nat.le_refl _))
   have HOP:=hid hop
   clear hop
   go_wp2_with (first | (at_builtin;refine wpList_append_own _ rfl (.tmp 18) (.tmp 20) 92 rfl w.heap.size 97 i0 _ 1 8 Tryz.underlying92 hi hz0 hz1 hz2 rfl (by decide) (.slice a k c) k (ptrs ps) rfl HRW.out ⟨wr.heap.size+1,0,none⟩ 1 1 [.pointer (some ⟨wr.heap.size,0,none⟩)] rfl rfl (fun j u hj=>by cases j with | zero=>(simp at hj;subst hj;rw [add_at];rw [World.cell?_alloc_at _ _ _ _ (by simp)];rfl)|succ j=>simp at hj) (fun u hu=>by simp at hu;subst hu;rfl) (by unfold maxLen;omega) (by omega) (by simp;omega) ?_;intro v2 w2 hown2 hgrow2 _;(have HO2:=hid hown2);(have HG2:=hid hgrow2);(have HPV:=hid (show w2.heap[w.heap.size]?=some (.cells #[.int .u64 key,.slice a k c,.int .i64 0,.bool false,.int .i64 0,.bool false] 96) from (hgrow2.block _ (by simp;omega) (fun e=>row_ne HOP.out.row HOP.out.hp (by decide) e.symm)).trans ((hba2.block _ hz).trans HOP.out.hp)));(have c2:w2.cell? ⟨w.heap.size,1,none⟩=some (.slice a k c):=by rw [cells_at HPV.out];rfl);(have f2:w2.frozen? ⟨w.heap.size,1,none⟩=false:=cells_fz HPV.out);(obtain ⟨a2,cc2,rfl,_⟩:=owns_rd_size hown2);clear hown2 hgrow2)|fail)
   go_roundw
   case rel =>
    refine ⟨k+1,ps++[wr.heap.size],.slice a2 (k+1) cc2,by omega,by go_num,?_,?_,?_,?_,?_,?_⟩
    ·simp [HOP.out.len]
    ·exact cells_set _ HPV.out
    ·have:=owns_spared HO2.out ((Spared.refl (fun b=>b=w.heap.size) w2).setCell (p:=⟨w.heap.size,1,none⟩) rfl (.slice a2 (k+1) cc2)) (fun b hb e=>row_ne HO2.out HPV.out (by decide) (by rw [hb,e]))
     simpa [ptrs] using this
    ·intro s hs
     rcases List.mem_append.1 hs with hs | hs
     ·obtain ⟨h1,h2⟩:=HOP.out.st s hs
      have hlt:=cells_lt h1
      refine ⟨?_,h2⟩
      rw [Below.heap_setCell _ _ _ _ (by show s≠w.heap.size;omega),HG2.out.block s (by simp;omega) (fun e=>row_ne HOP.out.row h1 (by decide) e.symm),hba2.block s hlt]
      exact h1
     ·have:s=wr.heap.size:=by simpa using hs
      subst this
      refine ⟨?_,hz⟩
      rw [Below.heap_setCell _ _ _ _ (by show wr.heap.size≠w.heap.size;omega),HG2.out.block _ (by simp;omega) (fun e=>by have:=(HOP.out.row.lt _ e.symm).2;omega),Below.heap_alloc _ _ _ (by simp)]
      exact alloc_at _ _
    ·refine List.nodup_append.2 ⟨HOP.out.nd,List.nodup_cons.2 ⟨nofun,List.nodup_nil⟩,fun s hs t ht=>?_⟩
     have:t=wr.heap.size:=by simpa using ht
     have:=cells_lt (HOP.out.st s hs).1
     omega
    ·exact ((HOP.out.bl.trans (hba2.mono (by omega))).grown HG2.out (by simp;omega) (fun q hq=>(HRW.out.lt q hq).1)).setCell (p:=⟨w.heap.size,1,none⟩) (Nat.le_refl _) _
   case measure=>simp [intOf];omega
  ·have hkn:k=n:=by omega
   subst hkn
   have HOP:=hid hop
   clear hop
   go_wp2
   go_ret
   exact ⟨ps,v,rfl,HOP.out⟩
end Go.Proofs.YtcegdgmbponapabGreatDoor
namespace Go.Proofs.YtcegdgmbponapabGreatDoor
open Go.RowKit Go.Extern.Stop Go.Stop Go.Extern
attribute [local go_sem ↓] Go.wp_at_zero Go.wp_at_succ
theorem Tryz.eqlPK (v:Value) (k:Int) (w:World):(binOp .eql 76 (.iface 146 v) (.iface 109 (.int .i64 k))).run Tryz.prog w=.ok (.bool false) w:=by kernel_rfl
theorem Tryz.eqlKK (j k:Int) (w:World):(binOp .eql 76 (.iface 109 (.int .i64 j)) (.iface 109 (.int .i64 k))).run Tryz.prog w=.ok (.bool (j == k)) w:=by kernel_rfl
theorem Tryz.eqlNN (w:World):(binOp .eql 76 .nilIface .nilIface).run Tryz.prog w=.ok (.bool true) w:=by kernel_rfl
theorem Tryz.eqlNK (v:Value) (w:World):(binOp .eql 76 .nilIface (.iface 109 v)).run Tryz.prog w=.ok (.bool false) w:=by kernel_rfl
theorem Tryz.eqlKN (v:Value) (w:World):(binOp .eql 76 (.iface 109 v) .nilIface).run Tryz.prog w=.ok (.bool false) w:=by kernel_rfl
theorem Tryz.eqlPN (v:Value) (w:World):(binOp .eql 76 (.iface 146 v) .nilIface).run Tryz.prog w=.ok (.bool false) w:=by kernel_rfl
theorem Tryz.methodComparable (h:Value) (w:World):(Go.method 444 199 (.agg #[h]) "Comparable").run Tryz.prog w=.ok (246,.agg #[h]) w:=by kernel_rfl
theorem Tryz.comparableE (w:World):(ReflectliteType.method (fun t=>do Rtype.noPackHeld "Comparable" t;(fun a=>Value.bool a.comparable) <$> typeInfo t) #[.agg #[.pointer (some ⟨5,109,none⟩)]]).run Tryz.prog w=.ok (.bool true) w:=by kernel_rfl
theorem Tryz.assertIsP (v:Value) (w:World):(Instr.typeAssert (.iface 146 v) 76 276 true).run Tryz.prog w=.ok (.tuple #[.nilIface,.bool false]) w:=run_typeAssert_lacksB Tryz.underlying276 (by kernel_rfl) (by kernel_rfl) v _ w
theorem Tryz.assertIsK (v:Value) (w:World):(Instr.typeAssert (.iface 109 v) 76 276 true).run Tryz.prog w=.ok (.tuple #[.nilIface,.bool false]) w:=run_typeAssert_lacksB Tryz.underlying276 (by kernel_rfl) (by kernel_rfl) v _ w
theorem Tryz.assertUnK (v:Value) (w:World):(Instr.typeAssert (.iface 109 v) 76 207 true).run Tryz.prog w=.ok (.tuple #[.nilIface,.bool false]) w:=run_typeAssert_lacksB Tryz.underlying207 (by kernel_rfl) (by kernel_rfl) v _ w
theorem Tryz.assertUnsK (v:Value) (w:World):(Instr.typeAssert (.iface 109 v) 76 208 true).run Tryz.prog w=.ok (.tuple #[.nilIface,.bool false]) w:=run_typeAssert_lacksB Tryz.underlying208 (by kernel_rfl) (by kernel_rfl) v _ w
set_option maxRecDepth 100000 in
set_option maxHeartbeats 4000000 in
theorem is_any (k kt:Int) (w:World) (d:Nat) (e:Value) (hc:Chain w k d e) (hd:d≤10) :
  Calls Tryz.prog 156 #[e,.iface 109 (.int .i64 kt),.bool true] w fun ev w'=>ev=.returned (.bool (k == kt))∧w'=w:=by
 have q1:=Tryz.eqlPK
 have q2:=Tryz.eqlKK
 have sI:=Tryz.assertIsP
 have sK:=Tryz.assertIsK
 have sU:=Tryz.assertUnwrap
 have sV:=Tryz.assertUnK
 have sW:=Tryz.assertUnsK
 have mU:=Tryz.methodUnwrap
 have HC:=hid hc
 clear hc
 go_enter Tryz.func156,Tryz.ntmps156
 go_wp2_with fail
 go_loopw [0] (fun e wr=>∃d,d≤10∧Chain wr k d e∧wr=w) (fun e wr=>deep wr 10 e)
 case atStart=>exact ⟨d,hd,HC.out,rfl⟩
 case round =>
  obtain ⟨d',hd',hc',rfl⟩:=hrel
  have hm:=hc'.deep 10 hd'
  cases hc' with
  | hit =>
   by_cases hk:k=kt
   ·subst hk
    have hkk:(k == k)=true:=by simp
    go_wp2_with fail
    go_ret
    exact ⟨congrArg (fun b=>Ending.returned (.bool b)) hkk.symm,rfl⟩
   ·have hkk:(k == kt)=false:=by simp [hk]
    have HKK:=hid hkk
    go_wp2_with fail
    go_ret
    exact ⟨congrArg (fun b=>Ending.returned (.bool b)) HKK.out.symm,rfl⟩
  | place d2 b e2 h2 hcell hlt =>
   have h3:=h2.deep 10 (by omega)
   have HM:=hid hm
   have H3:=hid h3
   have H2:=hid h2
   obtain ⟨te,ve,rfl⟩:=h2.shape
   clear hm h3 h2
   go_wp2_with (go_at_call 238;refine (unwrap_any b _ _ hcell).mono ?_;rintro ev w2 ⟨rfl,rfl⟩)
   exact ⟨⟨d2,by omega,H2.out,trivial⟩,by rw [H3.out,HM.out];omega⟩
set_option maxRecDepth 100000 in
set_option maxHeartbeats 4000000 in
theorem Is_any (k kt:Int) (w:World) (d:Nat) (e:Value) (hc:Chain w k d e) (hd:d≤10) :
  Calls Tryz.prog 115 #[e,.iface 109 (.int .i64 kt)] w fun ev w'=>ev=.returned (.bool (k == kt))∧w'=w:=by
 have HI:=hid (is_any k kt w d e hc hd)
 obtain ⟨te,ve,rfl⟩:=hc.shape
 have h1:=@run_callFunc_extern Tryz.prog 111 _ ReflectliteType.typeOf Tryz.func111 (by kernel_rfl) (by kernel_rfl) (by kernel_rfl) (by kernel_rfl)
 have h2:=@run_callFunc_extern Tryz.prog 246 _ (ReflectliteType.method (fun t=>do Rtype.noPackHeld "Comparable" t;pure (.bool (←typeInfo t).comparable))) Tryz.func246 (by kernel_rfl) (by kernel_rfl) (by kernel_rfl) (by kernel_rfl)
 have tE:=Tryz.typeOfE
 have mC:=Tryz.methodComparable
 have cE:=Tryz.comparableE
 have n1:=Tryz.eqlKN
 have hn:(binOp .eql 76 (.iface te ve) .nilIface).run Tryz.prog w=.ok (.bool false) w:=by
  cases hc with
  | hit=>exact Tryz.eqlKN _ _
  | place=>exact Tryz.eqlPN _ _
 clear hc
 go_enter Tryz.func115,Tryz.ntmps115
 go_wp2_with (go_at_call 156;refine HI.out.mono ?_;rintro e w1 ⟨rfl,rfl⟩)
 go_ret
 exact ⟨rfl,rfl⟩
set_option maxRecDepth 100000 in
theorem Is_nil (kt:Int) (w:World) :
  Calls Tryz.prog 115 #[.nilIface,.iface 109 (.int .i64 kt)] w fun ev w'=>ev=.returned (.bool false)∧w'=w:=by
 have n1:=Tryz.eqlNN
 have n2:=Tryz.eqlNK
 go_enter Tryz.func115,Tryz.ntmps115
 go_wp2
 go_ret
 exact ⟨rfl,rfl⟩
end Go.Proofs.YtcegdgmbponapabGreatDoor