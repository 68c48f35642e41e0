/-
  What the proofs of the cards have in common: the door's heap, a plan as an argument, a slice of ints as an argument.
  Errors: fault.At wraps, errors.As finds the kind within, fault.Number tells it.
  The walks of fault.At, errors.As and fault.Number.
  The walks of cutting's checks of pieces, where the pieces are right; too few of them.
-/
import Derived.Test.YtcegdgmbponapabGreatDoorCards
import Derived.Test.YtcegdgmbponapabGreatDoorTie
import Derived.Test.YtcegdgmbponapabGreatDoorPart03
import Derived.LaidMore
import Derived.Lib.SmallJoins
import Derived.Stop.Asserts
namespace Go.Proofs.YtcegdgmbponapabGreatDoor
open Go.ChangeShapes Go.WideShapes Go.ChangeAt Go.RowKit Go.Joins
open Go.ChangeMaps (open_string shut_string)
theorem own:ownKnob Tryz.prog.godebug=none:=by kernel_rfl
theorem Tryz.cellsPlan:Tryz.prog.cellsOf 29=3:=by kernel_rfl
theorem door_met (os:Os) (args:Array Value):laidMetH Tryz.prog [("math/bits.deBruijn32tab",Rows.laid_math_bits_deBruijn32tab),("math/bits.deBruijn64tab",Rows.laid_math_bits_deBruijn64tab),("internal/strconv.uint64pow10",Rows.laid_internal_strconv_uint64pow10),("errors.errorType",Rows.laid_errors_errorType)] ((World.doorLaid Tryz.prog 31 os).forCall (fun _ _=>0) ⟨#[],args,[]⟩).memory :=
 laidMetH_of_parts3 (fuel:=8) (laidMet_of_run' 8 (by kernel_rfl) (by kernel_rfl)) (by kernel_rfl) (by kernel_rfl)
theorem i64_of_wf {n:Int} (h:(Lit.int .i64 n).wf=true):I64 n:=by
 have:=bounds_i64 h
 unfold I64
 omega
theorem Tryz.cellsInt:Tryz.prog.cellsOf 3=1:=by kernel_rfl
theorem Tryz.laidOut:laidOutB Tryz.prog=true:=by kernel_rfl
end Go.Proofs.YtcegdgmbponapabGreatDoor
namespace Go.Proofs.YtcegdgmbponapabGreatDoor
open Go.RowKit Go.Extern.Stop Go.Stop Go.Extern
attribute [local go_sem ↓] Go.wp_at_zero Go.wp_at_succ
/-! What the model's entries for internal/reflectlite answer at a Kind and at a pointer to one. -/
theorem Tryz.valueOfT (t:Addr) (w:World):(ReflectliteValue.unpack (.iface 111 (.pointer (some t)))).run Tryz.prog w
  = .ok (.agg #[.pointer (some ⟨5,111,none⟩),.pointer (some ⟨w.heap.size,0,none⟩),.int .u64 150]) (w.alloc (.cells #[.pointer (some t)] 111)):=by kernel_rfl
theorem Tryz.typeT (a:Addr) (w:World):(ReflectliteValue.methodAny (ReflectliteValue.valueError "reflectlite.Value.Type" 0) (fun t _ _ _=>ReflectliteType.toType t) #[.agg #[.pointer (some ⟨5,111,none⟩),.pointer (some a),.int .u64 150]]).run Tryz.prog w
  = .ok (.iface 199 (.agg #[.pointer (some ⟨5,111,none⟩)])) w:=by kernel_rfl
theorem Tryz.methodKind (h:Value) (w:World):(Go.method 444 199 (.agg #[h]) "Kind").run Tryz.prog w=.ok (233,h) w:=by kernel_rfl
theorem Tryz.kindT (w:World):((ReflectliteType.abiMethod fun t=>(fun a:Nat=>Value.int IntKind.u8 (a:Int)) <$> Rtype.kind t) #[.pointer (some ⟨5,111,none⟩)]).run Tryz.prog w=.ok (.int .u8 22) w:=by kernel_rfl
theorem Tryz.kindE (w:World):((ReflectliteType.abiMethod fun t=>(fun a:Nat=>Value.int IntKind.u8 (a:Int)) <$> Rtype.kind t) #[.pointer (some ⟨5,109,none⟩)]).run Tryz.prog w=.ok (.int .u8 2) w:=by kernel_rfl
theorem rlm (z:Sem Value) (f:TypeId→Addr→Nat→Nat→Sem Value) (v:Value) :
  ReflectliteValue.method z f #[v]=(do match ←ReflectliteValue.parts v with | none=>z | some (t,a,fl)=>f t a fl (fl % 32)):=rfl
theorem Tryz.partsT (a:Addr) (w:World):(ReflectliteValue.parts (.agg #[.pointer (some ⟨5,111,none⟩),.pointer (some a),.int .u64 150])).run Tryz.prog w=.ok (some (111,a,150)) w:=by kernel_rfl
theorem Tryz.isNilT (a p:Addr) (W:World) (ha:W.cell? a=some (.pointer (some p))) :
  (ReflectliteValue.method (ReflectliteValue.valueError "reflectlite.Value.IsNil" 0) ReflectliteValue.isNil #[.agg #[.pointer (some ⟨5,111,none⟩),.pointer (some a),.int .u64 150]]).run Tryz.prog W=.ok (.bool false) W:=by
 rw [rlm]
 simp only [Sem.run_bind,Tryz.partsT,Result.andThen]
 simp [ReflectliteValue.isNil,loadVar,isAgg,underlying,Tryz.underlying111,ha,Result.andThen]
theorem Tryz.methodElem (h:Value) (w:World):(Go.method 444 199 (.agg #[h]) "Elem").run Tryz.prog w=.ok (247,.agg #[h]) w:=by kernel_rfl
theorem Tryz.methodImplements (h:Value) (w:World):(Go.method 444 199 (.agg #[h]) "Implements").run Tryz.prog w=.ok (248,.agg #[h]) w:=by kernel_rfl
theorem Tryz.methodAssignableTo (h:Value) (w:World):(Go.method 444 199 (.agg #[h]) "AssignableTo").run Tryz.prog w=.ok (245,.agg #[h]) w:=by kernel_rfl
theorem Tryz.methodUnwrap (a:Option Addr) (w:World):(Go.method 444 146 (.pointer a) "Unwrap").run Tryz.prog w=.ok (238,.pointer a) w:=by kernel_rfl
theorem Tryz.elemT (w:World):(ReflectliteType.method ReflectliteType.elem #[.agg #[.pointer (some ⟨5,111,none⟩)]]).run Tryz.prog w=.ok (.iface 199 (.agg #[.pointer (some ⟨5,109,none⟩)])) w:=by kernel_rfl
theorem Tryz.implementsE (w:World):(ReflectliteType.relation "Implements" ReflectliteType.implements_ #[.agg #[.pointer (some ⟨5,109,none⟩)],.iface 199 (.agg #[.pointer (some ⟨5,76,none⟩)])]).run Tryz.prog w=.ok (.bool true) w:=by kernel_rfl
theorem Tryz.typeOfE (v:Value) (w:World):(ReflectliteType.typeOf #[.iface 109 v]).run Tryz.prog w=.ok (.iface 199 (.agg #[.pointer (some ⟨5,109,none⟩)])) w:=by kernel_rfl
theorem Tryz.typeOfP (v:Value) (w:World):(ReflectliteType.typeOf #[.iface 146 v]).run Tryz.prog w=.ok (.iface 199 (.agg #[.pointer (some ⟨5,146,none⟩)])) w:=by kernel_rfl
theorem Tryz.assignableE (w:World):(ReflectliteType.relation "AssignableTo" ReflectliteType.assignableTo #[.agg #[.pointer (some ⟨5,109,none⟩)],.iface 199 (.agg #[.pointer (some ⟨5,109,none⟩)])]).run Tryz.prog w=.ok (.bool true) w:=by kernel_rfl
theorem Tryz.assignableP (w:World):(ReflectliteType.relation "AssignableTo" ReflectliteType.assignableTo #[.agg #[.pointer (some ⟨5,146,none⟩)],.iface 199 (.agg #[.pointer (some ⟨5,109,none⟩)])]).run Tryz.prog w=.ok (.bool false) w:=by kernel_rfl
theorem Tryz.valueOfE (k:Int) (w:World):(ReflectliteValue.unpack (.iface 109 (.int .i64 k))).run Tryz.prog w
  = .ok (.agg #[.pointer (some ⟨5,109,none⟩),.pointer (some ⟨w.heap.size,0,none⟩),.int .u64 130]) (w.alloc (.cells #[.int .i64 k] 109)):=by kernel_rfl
theorem Tryz.elemOfT (w:World):(Rtype.elem? 111).run Tryz.prog w=.ok (some 109) w:=by kernel_rfl
theorem Tryz.mkE (p:Addr) (w:World):(ReflectliteValue.mk 109 p ReflectliteValue.flagAddr).run Tryz.prog w=.ok (.agg #[.pointer (some ⟨5,109,none⟩),.pointer (some p),.int .u64 386]) w:=by kernel_rfl
theorem Tryz.elemVT (a p:Addr) (W:World) (ha:W.cell? a=some (.pointer (some p))) :
  (ReflectliteValue.method (ReflectliteValue.valueError "reflectlite.Value.Elem" 0) ReflectliteValue.elem #[.agg #[.pointer (some ⟨5,111,none⟩),.pointer (some a),.int .u64 150]]).run Tryz.prog W
   = .ok (.agg #[.pointer (some ⟨5,109,none⟩),.pointer (some p),.int .u64 386]) W:=by
 rw [rlm]
 simp only [Sem.run_bind,Tryz.partsT,Result.andThen]
 simp [ReflectliteValue.elem,loadVar,isAgg,underlying,Tryz.underlying111,ha,Result.andThen,Tryz.elemOfT,Tryz.mkE]
theorem Tryz.partsE (a:Addr) (w:World):(ReflectliteValue.parts (.agg #[.pointer (some ⟨5,109,none⟩),.pointer (some a),.int .u64 386])).run Tryz.prog w=.ok (some (109,a,386)) w:=by kernel_rfl
theorem Tryz.partsE' (a:Addr) (w:World):(ReflectliteValue.parts (.agg #[.pointer (some ⟨5,109,none⟩),.pointer (some a),.int .u64 130])).run Tryz.prog w=.ok (some (109,a,130)) w:=by kernel_rfl
theorem Tryz.directE (w:World):(Rtype.directlyAssignable 109 109).run Tryz.prog w=.ok true w:=by kernel_rfl
theorem lit1 (a b:Value) (h1:(#[a,b]:Array Value).size=2) (h2:1<2):(#[a,b]:Array Value).getLit 1 h1 h2=b:=rfl
theorem Tryz.setE (ta b:Addr) (k:Int) (old:Value) (W:World) (hb:W.cell? b=some (.int .i64 k)) (ht:W.cell? ta=some old) (hf:W.frozen? ta=false) :
  (ReflectliteValue.set #[.agg #[.pointer (some ⟨5,109,none⟩),.pointer (some ta),.int .u64 386],.agg #[.pointer (some ⟨5,109,none⟩),.pointer (some b),.int .u64 130]]).run Tryz.prog W
   = .ok (.tuple #[]) (W.setCell ta (.int .i64 k)):=by
 refine Eq.trans (b:=Sem.run Tryz.prog (Bind.bind (ReflectliteValue.parts (.agg #[.pointer (some ⟨5,109,none⟩),.pointer (some ta),.int .u64 386])) _) W) rfl ?_
 simp only [Sem.run_bind,lit1,Tryz.partsE,Tryz.partsE',Result.andThen]
 simp [ReflectliteValue.flagAddr,loadVar,isAgg,underlying,Tryz.underlying109,hb,Result.andThen,Tryz.directE,storeVar,Value.cells,storeCells,Addr.add]
 rw [run_store Tryz.prog W ta _ _ (by rfl)]
 simp [ht,hf]
theorem Tryz.assertAs (v:Value) (w:World):(Instr.typeAssert (.iface 146 v) 76 204 true).run Tryz.prog w=.ok (.tuple #[.nilIface,.bool false]) w:=run_typeAssert_lacksB Tryz.underlying204 (by kernel_rfl) (by kernel_rfl) v _ w
theorem Tryz.assertUnwrap (v:Value) (w:World):(Instr.typeAssert (.iface 146 v) 76 207 true).run Tryz.prog w=.ok (.tuple #[.iface 146 v,.bool true]) w:=run_typeAssert_hasB Tryz.underlying207 (by kernel_rfl) v _ w
inductive Chain (w:World) (k:Int):Nat→Value→Prop
 | hit:Chain w k 0 (.iface 109 (.int .i64 k))
 | place (d b:Nat) (e:Value) (h:Chain w k d e) (hc:w.cell? ⟨b,1,none⟩=some e) (hb:b<w.heap.size):Chain w k (d+1) (.iface 146 (.pointer (some ⟨b,0,none⟩)))
theorem Chain.keeps {B:Nat} {w w':World} {k:Int} {d:Nat} {e:Value} (h:Chain w k d e) (hb:Below B w w') (hB:w.heap.size≤B):Chain w' k d e:=by
 induction h with
 | hit=>exact .hit
 | place d b e _ hc hlt ih=>exact .place d b e ih ((hb.cell (by show b<B;omega)).trans hc) (Nat.lt_of_lt_of_le hlt hb.size)
theorem Chain.shape {w:World} {k:Int} {d:Nat} {e:Value} (h:Chain w k d e):∃t v,e=.iface t v:=by
 cases h with
 | hit=>exact ⟨_,_,rfl⟩
 | place=>exact ⟨_,_,rfl⟩
def deep (w:World):Nat→Value→Nat
 | 0,_=>0
 | n+1,.iface t (.pointer (some a))=>if t=146 then (match w.cell? ⟨a.block,1,none⟩ with | some e=>deep w n e+1 | none=>0) else 0
 | _+1,_=>0
theorem Chain.deep {w:World} {k:Int} {d:Nat} {e:Value} (h:Chain w k d e):∀n,d≤n→deep w n e=d:=by
 induction h with
 | hit=>intro n _;cases n<;>rfl
 | place d b e _ hc _ ih =>
  intro n hn
  cases n with
  | zero=>omega
  | succ n =>
   show (if 146=146 then (match w.cell? ⟨b,1,none⟩ with | some e=>Go.Proofs.YtcegdgmbponapabGreatDoor.deep w n e+1 | none=>0) else 0)=d+1
   rw [if_pos rfl,hc]
   show Go.Proofs.YtcegdgmbponapabGreatDoor.deep w n e+1=d+1
   rw [ih n (by omega)]
theorem fault_at (where_:ByteArray) (t:TypeId) (v:Value) (w:World) :
  Calls Tryz.prog 53 #[.string where_,.iface t v] w fun e w'=>e=.returned (.iface 146 (.pointer (some ⟨w.heap.size,0,none⟩)))∧w'=w.alloc (.cells #[.string where_,.iface t v] 148):=by
 go_enter Tryz.func53,Tryz.ntmps53
 go_wp2
 go_ret
 exact ⟨rfl,rfl⟩
theorem at_chain (where_:ByteArray) (e:Value) (k:Int) (d:Nat) (w:World) (hc:Chain w k d e) :
  Calls Tryz.prog 53 #[.string where_,e] w fun ev w'=>∃e',ev=.returned e'∧Chain w' k (d+1) e'∧Below w.heap.size w w':=by
 obtain ⟨t,v,rfl⟩:=hc.shape
 refine (fault_at where_ t v w).mono ?_
 rintro ev w' ⟨rfl,rfl⟩
 have hb:=(Below.refl w.heap.size w).alloc (Nat.le_refl _) (.cells #[.string where_,.iface t v] 148)
 exact ⟨_,rfl,.place d _ _ (hc.keeps hb (Nat.le_refl _)) (by simp) (by simp),hb⟩
theorem unwrap_any (b:Nat) (e:Value) (w:World) (h:w.cell? ⟨b,1,none⟩=some e) :
  Calls Tryz.prog 238 #[.pointer (some ⟨b,0,none⟩)] w fun ev w'=>ev=.returned e∧w'=w:=by
 go_enter Tryz.func238,Tryz.ntmps238
 go_wp2
 go_ret
 exact ⟨rfl,rfl⟩
set_option maxRecDepth 100000 in
set_option maxHeartbeats 4000000 in
theorem as_hit (tgt:Value) (a t:Addr) (old:Value) (k:Int) (w:World) (ha:w.cell? a=some (.pointer (some t))) (ht:w.cell? t=some old) (hf:w.frozen? t=false) (d:Nat) (e:Value) (hc:Chain w k d e) (hd:d≤10) (ha1:a.block<w.heap.size) (ht1:t.block<w.heap.size) :
  Calls Tryz.prog 85 #[e,tgt,.agg #[.pointer (some ⟨5,111,none⟩),.pointer (some a),.int .u64 150],.iface 199 (.agg #[.pointer (some ⟨5,109,none⟩)])] w fun ev w'=>ev=.returned (.bool true) ∧
   w'=(((w.alloc (.cells #[.pointer (some ⟨5,111,none⟩),.pointer (some a),.int .u64 150] 155)).alloc (.cells #[.int .i64 k] 109)).setCell t (.int .i64 k)):=by
 have h80:=@run_callFunc_extern Tryz.prog 111 _ ReflectliteType.typeOf Tryz.func111 (by kernel_rfl) (by kernel_rfl) (by kernel_rfl) (by kernel_rfl)
 have h127:=@run_callFunc_extern Tryz.prog 245 _ (ReflectliteType.relation "AssignableTo" ReflectliteType.assignableTo) Tryz.func245 (by kernel_rfl) (by kernel_rfl) (by kernel_rfl) (by kernel_rfl)
 have h81:=@run_callFunc_extern Tryz.prog 112 _ (ReflectliteValue.method (ReflectliteValue.valueError "reflectlite.Value.Elem" 0) ReflectliteValue.elem) Tryz.func112 (by kernel_rfl) (by kernel_rfl) (by kernel_rfl) (by kernel_rfl)
 have h68:=@run_callFunc_extern Tryz.prog 82 _ (fun args=>ReflectliteValue.unpack (args.getD 0 (.tuple #[]))) Tryz.func82 (by kernel_rfl) (by kernel_rfl) (by kernel_rfl) (by kernel_rfl)
 have h82:=@run_callFunc_extern Tryz.prog 113 _ ReflectliteValue.set Tryz.func113 (by kernel_rfl) (by kernel_rfl) (by kernel_rfl) (by kernel_rfl)
 have tE:=Tryz.typeOfE
 have tP:=Tryz.typeOfP
 have mA:=Tryz.methodAssignableTo
 have mU:=Tryz.methodUnwrap
 have aE:=Tryz.assignableE
 have aP:=Tryz.assignableP
 have vE:=Tryz.valueOfE
 have sA:=Tryz.assertAs
 have sU:=Tryz.assertUnwrap
 have hba:=(Below.refl w.heap.size w).alloc (Nat.le_refl _) (.cells #[.pointer (some ⟨5,111,none⟩),.pointer (some a),.int .u64 150] 155)
 have hc1:=hc.keeps hba (Nat.le_refl _)
 have el:=Tryz.elemVT a t (w.alloc (.cells #[.pointer (some ⟨5,111,none⟩),.pointer (some a),.int .u64 150] 155)) (by rw [hba.cell ha1];exact ha)
 have st:=Tryz.setE t ⟨w.heap.size+1,0,none⟩ k old ((w.alloc (.cells #[.pointer (some ⟨5,111,none⟩),.pointer (some a),.int .u64 150] 155)).alloc (.cells #[.int .i64 k] 109))
  (by rw [World.cell?_alloc_at _ _ _ _ (by simp)];rfl)
  (by rw [World.cell?_alloc_lt _ _ t (by simp;omega),World.cell?_alloc_lt _ _ t ht1];exact ht)
  (by rw [World.frozen?_alloc_old _ _ t (by simp;omega),World.frozen?_alloc_old _ _ t (Nat.ne_of_lt ht1)];exact hf)
 have HC:=hid hc1
 clear hc hc1
 go_enter Tryz.func85,Tryz.ntmps85
 go_wp2_with fail
 go_loopw [0] (fun e wr=>∃d,d≤10∧Chain wr k d e∧wr=w.alloc (.cells #[.pointer (some ⟨5,111,none⟩),.pointer (some a),.int .u64 150] 155)) (fun e wr=>deep wr 10 e)
 case atStart=>exact ⟨d,hd,HC.out,rfl⟩
 case round =>
  obtain ⟨d',hd',hc',rfl⟩:=hrel
  have hm:=hc'.deep 10 hd'
  cases hc' with
  | hit =>
   go_wp2_with fail
   go_ret
   exact ⟨rfl,rfl⟩
  | place d2 b e2 h2 hcell hlt =>
   have h3:=h2.deep 10 (by omega)
   have HM:=hid hm
   have H3:=hid h3
   have H2:=hid h2
   obtain ⟨te,ve,rfl⟩:=h2.shape
   clear hm h3 h2
   go_wp2_with (go_at_call 238;refine (unwrap_any b _ _ hcell).mono ?_;rintro ev w2 ⟨rfl,rfl⟩)
   exact ⟨⟨d2,by omega,H2.out,trivial⟩,by rw [H3.out,HM.out];omega⟩
def ErrType (w:World):Prop:=w.cell? ⟨0,0,none⟩=some (.iface 199 (.agg #[.pointer (some ⟨5,76,none⟩)]))∧0<w.heap.size
theorem ErrType.keeps {B:Nat} {w w':World} (h:ErrType w) (hb:Below B w w') (hB:w.heap.size≤B):ErrType w' :=
 ⟨(hb.cell (by show 0<B;have:=h.2;omega)).trans h.1,Nat.lt_of_lt_of_le h.2 hb.size⟩
set_option maxRecDepth 100000 in
set_option maxHeartbeats 4000000 in
theorem As_hit (t:Addr) (old:Value) (k:Int) (w:World) (ht:w.cell? t=some old) (hf:w.frozen? t=false) (d:Nat) (e:Value) (hc:Chain w k d e) (hd:d≤10) (ht1:t.block<w.heap.size) (hg:ErrType w) :
  Calls Tryz.prog 55 #[e,.iface 111 (.pointer (some t))] w fun ev w'=>ev=.returned (.bool true)∧w'.cell? t=some (.int .i64 k)∧Below t.block w w':=by
 have h68:=@run_callFunc_extern Tryz.prog 82 _ (fun args=>ReflectliteValue.unpack (args.getD 0 (.tuple #[]))) Tryz.func82 (by kernel_rfl) (by kernel_rfl) (by kernel_rfl) (by kernel_rfl)
 have h69:=@run_callFunc_extern Tryz.prog 83 _ (ReflectliteValue.methodAny (ReflectliteValue.valueError "reflectlite.Value.Type" 0) (fun t _ _ _=>ReflectliteType.toType t)) Tryz.func83 (by kernel_rfl) (by kernel_rfl) (by kernel_rfl) (by kernel_rfl)
 have h70:=@run_callFunc_extern Tryz.prog 84 _ (ReflectliteValue.method (ReflectliteValue.valueError "reflectlite.Value.IsNil" 0) ReflectliteValue.isNil) Tryz.func84 (by kernel_rfl) (by kernel_rfl) (by kernel_rfl) (by kernel_rfl)
 have h117:=@run_callFunc_extern Tryz.prog 233 _ (ReflectliteType.abiMethod fun t=>do pure (.int .u8 (←Rtype.kind t))) Tryz.func233 (by kernel_rfl) (by kernel_rfl) (by kernel_rfl) (by kernel_rfl)
 have h129:=@run_callFunc_extern Tryz.prog 247 _ (ReflectliteType.method ReflectliteType.elem) Tryz.func247 (by kernel_rfl) (by kernel_rfl) (by kernel_rfl) (by kernel_rfl)
 have h130:=@run_callFunc_extern Tryz.prog 248 _ (ReflectliteType.relation "Implements" ReflectliteType.implements_) Tryz.func248 (by kernel_rfl) (by kernel_rfl) (by kernel_rfl) (by kernel_rfl)
 have f6:=Tryz.valueOfT
 have f7:=Tryz.typeT
 have mK:=Tryz.methodKind
 have mE:=Tryz.methodElem
 have mI:=Tryz.methodImplements
 have kT:=Tryz.kindT
 have kE:=Tryz.kindE
 have eT:=Tryz.elemT
 have iE:=Tryz.implementsE
 obtain ⟨te,ve,rfl⟩:=hc.shape
 have hb1:=(Below.refl w.heap.size w).alloc (Nat.le_refl _) (.cells #[.pointer (some t)] 111)
 have hb2:=hb1.alloc (by simp) (.cells #[.pointer (some ⟨5,111,none⟩),.pointer (some ⟨w.heap.size,0,none⟩),.int .u64 150] 155)
 have n8:=Tryz.isNilT ⟨w.heap.size,0,none⟩ t ((w.alloc (.cells #[.pointer (some t)] 111)).alloc (.cells #[.pointer (some ⟨5,111,none⟩),.pointer (some ⟨w.heap.size,0,none⟩),.int .u64 150] 155)) (by simp)
 have hg2:=(hg.keeps hb2 (Nat.le_refl _)).1
 have HC:=hid (hc.keeps hb2 (Nat.le_refl _))
 have HH:=hid (as_hit (.iface 111 (.pointer (some t))) ⟨w.heap.size,0,none⟩ t old k ((w.alloc (.cells #[.pointer (some t)] 111)).alloc (.cells #[.pointer (some ⟨5,111,none⟩),.pointer (some ⟨w.heap.size,0,none⟩),.int .u64 150] 155)) (by simp) ((hb2.cell ht1).trans ht) ((hb2.frozen ht1).trans hf) d _ (hc.keeps hb2 (Nat.le_refl _)) hd (by simp;omega) (by simp;omega))
 clear hc
 go_enter Tryz.func55,Tryz.ntmps55
 go_wp2_with (go_at_call 85;refine HH.out.mono ?_;rintro ev w2 ⟨rfl,rfl⟩)
 go_ret
 have hb4:=(hb2.alloc (by simp;omega) (.cells #[.pointer (some ⟨5,111,none⟩),.pointer (some ⟨w.heap.size,0,none⟩),.int .u64 150] 155)).alloc (by simp;omega) (.cells #[.int .i64 k] 109)
 exact ⟨rfl,World.cell?_setCell_same _ _ _ ((hb4.cell ht1).trans ht),(hb4.mono (by omega)).setCell (Nat.le_refl _) _⟩
set_option maxRecDepth 100000 in
theorem number_chain (k:Int) (w:World) (d:Nat) (e:Value) (hc:Chain w k d e) (hd:d≤10) (hg:ErrType w) :
  Calls Tryz.prog 36 #[e] w fun ev w'=>ev=.returned (.int .i64 k)∧Below w.heap.size w w':=by
 obtain ⟨te,ve,rfl⟩:=hc.shape
 have hb1:=(Below.refl w.heap.size w).alloc (Nat.le_refl _) (.cells #[.int .i64 0] 109)
 have HH:=hid (As_hit ⟨w.heap.size,0,none⟩ (.int .i64 0) k (w.alloc (.cells #[.int .i64 0] 109)) (by simp) (by simp) d _ (hc.keeps hb1 (Nat.le_refl _)) hd (by simp) (hg.keeps hb1 (Nat.le_refl _)))
 clear hc hg
 go_enter Tryz.func36,Tryz.ntmps36
 go_wp2_with (go_at_call 55;refine HH.out.mono ?_;rintro ev w2 ⟨rfl,hcell,hb2⟩)
 go_ret
 exact ⟨rfl,hb1.trans (by simpa using hb2)⟩
end Go.Proofs.YtcegdgmbponapabGreatDoor
namespace Go.Proofs.YtcegdgmbponapabGreatDoor
open Go.RowKit
attribute [local go_sem ↓] Go.wp_at_zero Go.wp_at_succ
def PRd (w:World) (a:Option Addr) (ss:List Nat) (ps:List ByteArray):Prop :=
 ∀i,i<ss.length→∃b o,a=some ⟨b,o,none⟩∧b<w.heap.size∧w.cell? ⟨b,o+i*2,none⟩=some (.int .i64 (ss.getD i 0:Nat))∧w.cell? ⟨b,o+i*2+1,none⟩=some (.string (ps.getD i ByteArray.empty))
theorem PRd.keeps {B:Nat} {w w':World} {a:Option Addr} {ss:List Nat} {ps:List ByteArray} (h:PRd w a ss ps) (hb:Below B w w') (hB:w.heap.size≤B):PRd w' a ss ps:=by
 intro i hi
 obtain ⟨b,o,h1,h2,h3,h4⟩:=h i hi
 exact ⟨b,o,h1,Nat.lt_of_lt_of_le h2 hb.size,(hb.cell (by show b<B;omega)).trans h3,(hb.cell (by show b<B;omega)).trans h4⟩
theorem threshold_any (ag at':Option Addr) (gs cg ts ct ng:Nat) (w:World) (h1:gs≤100) (h2:ts≤100) :
  Calls Tryz.prog 101 #[.agg #[.slice ag gs cg,.slice at' ts ct,.int .i64 ng]] w fun e w'=>e=.returned (.int .i64 ((gs+ts:Nat):Int))∧Below w.heap.size w w':=by
 go_enter Tryz.func101,Tryz.ntmps101
 go_wp2
 first
 | (go_ret;exact ⟨ret_int (by omega),(Below.refl _ _).alloc (Nat.le_refl _) _⟩)
 | (go_quiet (fail);go_wp2;go_ret;exact ⟨ret_int (by omega),below_drewN ((Below.refl _ _).alloc (Nat.le_refl _) _) _⟩)
/-! The numeral of a small number. -/
theorem small_lt (i:Nat) (h:i<10) (w:World) :
  Calls Tryz.prog 188 #[.int .i64 i] w fun e w'=>(∃s:ByteArray,e=.returned (.string s)∧s.size≤2)∧w'=w:=by
 go_enter Tryz.func188,Tryz.ntmps188
 go_wp2
 go_ret
 exact ⟨⟨_,rfl,by simp;omega⟩,rfl⟩
theorem itoa_small (i:Nat) (h:i<10) (w:World) :
  Calls Tryz.prog 106 #[.int .i64 i] w fun e w'=>(∃s:ByteArray,e=.returned (.string s)∧s.size≤2)∧w'=w:=by
 have h1:Calls Tryz.prog 173 #[.int .i64 i,.int .i64 10] w fun e w'=>(∃s:ByteArray,e=.returned (.string s)∧s.size≤2)∧w'=w:=by
  go_enter Tryz.func173,Tryz.ntmps173
  go_wp2_with (go_at_call 188;refine (small_lt i h _).mono ?_;rintro e w1 ⟨⟨s,rfl,hs⟩,rfl⟩)
  go_ret
  exact ⟨⟨_,rfl,hs⟩,rfl⟩
 have h2:Calls Tryz.prog 145 #[.int .i64 i] w fun e w'=>(∃s:ByteArray,e=.returned (.string s)∧s.size≤2)∧w'=w:=by
  go_enter Tryz.func145,Tryz.ntmps145
  go_wp2_with (go_at_call 173;refine h1.mono ?_;rintro e w1 ⟨⟨s,rfl,hs⟩,rfl⟩)
  go_ret
  exact ⟨⟨_,rfl,hs⟩,rfl⟩
 go_enter Tryz.func106,Tryz.ntmps106
 go_wp2_with (go_at_call 145;refine h2.mono ?_;rintro e w1 ⟨⟨s,rfl,hs⟩,rfl⟩)
 go_ret
 exact ⟨⟨_,rfl,hs⟩,rfl⟩
theorem atCount_small (i:Nat) (what:ByteArray) (e:Value) (k:Int) (d:Nat) (h:i<10) (hw:what.size≤100) (w:World) (hc:Chain w k d e) :
  Calls Tryz.prog 77 #[.int .i64 i,.string what,e] w fun ev w'=>∃e',ev=.returned e'∧Chain w' k (d+1) e'∧Below w.heap.size w w':=by
 obtain ⟨te,ve,rfl⟩:=hc.shape
 have HC:=hid hc
 clear hc
 go_enter Tryz.func77,Tryz.ntmps77
 go_wp2_with (first | (go_at_call 106;refine (itoa_small i h _).mono ?_;rintro e w1 ⟨⟨s,rfl,hs⟩,rfl⟩)|(go_at_call 53;refine (at_chain _ _ k d _ HC.out).mono ?_;rintro e w2 ⟨e',rfl,hch,hb2⟩))
 go_ret
 exact ⟨_,rfl,hch,hb2⟩
set_option maxRecDepth 100000 in
set_option maxHeartbeats 1000000 in
theorem checkLengths_ok (aP:Option Addr) (m c G:Nat) (ss:List Nat) (ps:List ByteArray) (w:World) (em:m=ss.length) (hr:PRd w aP ss ps) (hm:m≤100) (hlen:∀i,i<m→(ps.getD i ByteArray.empty).size=G) :
  Calls Tryz.prog 141 #[.slice aP m c,.int .i64 G] w fun e w'=>e=.returned .nilIface∧Below w.heap.size w w':=by
 have EM:=hid em
 have HL:=hid hlen
 clear em hlen
 go_enter Tryz.func141,Tryz.ntmps141
 go_wp2_with fail
 go_loopw [9] (fun i wr=>∃k:Nat,k≤m∧i=.int .i64 k∧Below w.heap.size w wr) (fun i _=>m-(intOf i).toNat)
 case atStart=>exact ⟨0,Nat.zero_le _,rfl,Below.refl _ _⟩
 case round =>
  obtain ⟨k,hk,rfl,hbel⟩:=hrel
  have hzb:=hbel.size
  by_cases hlt:k<m
  ·obtain ⟨b,o,rfl,hb,h1,h2⟩:=hr k (by rw [←EM.out];exact hlt)
   have c1:wr.cell? ⟨b,o+k*2,none⟩=some (.int .i64 (ss.getD k 0:Nat)):=(hbel.cell (by exact hb)).trans h1
   have c2:wr.cell? ⟨b,o+k*2+1,none⟩=some (.string (ps.getD k ByteArray.empty)):=(hbel.cell (by exact hb)).trans h2
   have hsz:=HL.out k hlt
   generalize ps.getD k ByteArray.empty=p at *
   generalize ss.getD k 0=s at *
   have hk1:(k:Int)<(m:Int):=by omega
   have hne:((p.size:Int) != (G:Int))=false:=by rw [hsz];simp
   clear h1 h2 hsz hr
   go_wp2_with fail
   go_roundw
   case rel=>exact ⟨k+1,by omega,by go_num,hbel.alloc hzb _⟩
   case measure=>simp [intOf];omega
  ·go_wp2
   go_ret
   exact ⟨rfl,hbel⟩
set_option maxRecDepth 100000 in
set_option maxHeartbeats 1000000 in
theorem checkStores_ok (aP:Option Addr) (m c n:Nat) (ss:List Nat) (ps:List ByteArray) (w:World) (em:m=ss.length) (hr:PRd w aP ss ps) (hm:m≤100) (hn:n≤8) (hss:∀s∈ss,s<n) (hnd:ss.Nodup) :
  Calls Tryz.prog 140 #[.slice aP m c,.int .i64 n] w fun e w'=>e=.returned .nilIface∧Below w.heap.size w w':=by
 have EM:=hid em
 have HSS:=hid hss
 have HND:=hid hnd
 clear em hss hnd
 go_enter Tryz.func140,Tryz.ntmps140
 go_wp2_with fail
 go_loopw [10] (fun i wr=>∃k:Nat,k≤m∧i=.int .i64 k∧(∀j,j<8→wr.cell? ⟨w.heap.size,j,none⟩=some (.bool (decide (j∈ss.take k)))∧wr.frozen? ⟨w.heap.size,j,none⟩=false)∧w.heap.size<wr.heap.size∧Below w.heap.size w wr) (fun i _=>m-(intOf i).toNat)
 case atStart =>
  refine ⟨0,Nat.zero_le _,rfl,fun j hj=>?_,by simp,(Below.refl _ _).alloc (Nat.le_refl _) _⟩
  have:j=0∨j=1∨j=2∨j=3∨j=4∨j=5∨j=6∨j=7:=by omega
  rcases this with rfl | rfl | rfl | rfl | rfl | rfl | rfl | rfl<;>simp
 case round =>
  obtain ⟨k,hk,rfl,hnm,hz,hbel⟩:=hrel
  have hzb:=hbel.size
  have HNM:=hid hnm
  clear hnm
  by_cases hlt:k<m
  ·have hkl:k<ss.length:=by rw [←EM.out];exact hlt
   obtain ⟨b,o,rfl,hb,h1,h2⟩:=hr k hkl
   have c1:wr.cell? ⟨b,o+k*2,none⟩=some (.int .i64 (ss.getD k 0:Nat)):=(hbel.cell (by exact hb)).trans h1
   have c2:wr.cell? ⟨b,o+k*2+1,none⟩=some (.string (ps.getD k ByteArray.empty)):=(hbel.cell (by exact hb)).trans h2
   obtain ⟨s,hs⟩:∃s,s=ss.getD k 0:=⟨_,rfl⟩
   have hsk:s=ss[k]:=by rw [hs];simp [hkl]
   have hsn:s<n:=by rw [hsk];exact HSS.out _ (List.getElem_mem hkl)
   have hnot:s ∉ ss.take k:=by
    rw [hsk]
    intro hmem
    obtain ⟨i,hi,e⟩:=List.getElem_of_mem hmem
    have hik:i<k:=by simp at hi;omega
    rw [List.getElem_take] at e
    have:=(List.getElem_inj HND.out (h₀:=by omega) (h₁:=hkl)).1 e
    omega
   obtain ⟨hcs,hfs⟩:=HNM.out s (by omega)
   rw [decide_eq_false hnot] at hcs
   have HTK:=hid (show ss.take (k+1)=ss.take k++[s] by rw [List.take_succ_eq_append_getElem hkl,hsk])
   rw [←hs] at c1
   generalize ps.getD k ByteArray.empty=p at *
   have hk1:(k:Int)<(m:Int):=by omega
   have hs0:(0:Int)≤(s:Int):=by omega
   have hs1:(s:Int)<(n:Int):=by omega
   have hs8:(s:Int)<8:=by omega
   clear h1 h2 hr hs hsk hnot
   have hb1:∀c,Below wr.heap.size wr (wr.alloc c):=fun c=>(Below.refl _ _).alloc (Nat.le_refl _) c
   have q1:∀c,(wr.alloc c).cell? ⟨w.heap.size,s,none⟩=some (.bool false):=fun c=>((hb1 c).cell (by exact hz)).trans hcs
   have q2:∀c,(wr.alloc c).frozen? ⟨w.heap.size,s,none⟩=false:=fun c=>((hb1 c).frozen (by exact hz)).trans hfs
   clear hb1
   go_wp2_with fail
   go_roundw
   case rel =>
    refine ⟨k+1,by omega,by go_num,fun j hj=>?_,by simp;omega,(hbel.setCell (p:=⟨w.heap.size,s,none⟩) (Nat.le_refl _) _).alloc (by simp;omega) _⟩
    rw [World.cell?_alloc_lt _ _ ⟨w.heap.size,j,none⟩ (by simpa using hz),World.frozen?_alloc_old _ _ ⟨w.heap.size,j,none⟩ (by simp;omega)]
    obtain ⟨h1,h2⟩:=HNM.out j hj
    refine ⟨?_,by simpa using h2⟩
    rw [HTK.out]
    by_cases hjs:j=s
    ·subst hjs
     rw [World.cell?_setCell_same _ _ _ hcs]
     simp
    ·rw [World.cell?_setCell_other _ _ _ _ (by intro e;apply hjs;injection e with _ e2;exact e2.symm),h1]
     simp [hjs]
   case measure=>simp [intOf];omega
  ·go_wp2
   go_ret
   exact ⟨rfl,hbel⟩
set_option maxRecDepth 100000 in
set_option maxHeartbeats 1000000 in
theorem checkPieces_any (aP:Option Addr) (m c n:Nat) (ss:List Nat) (ps:List ByteArray) (ag at':Option Addr) (gs cg ts ct G:Nat) (w:World) (em:m=ss.length) (hr:PRd w aP ss ps) (hm:m≤9) (hn:n≤8) (hss:∀s∈ss,s<n) (hnd:ss.Nodup)
  (hlen:∀i,i<m→(ps.getD i ByteArray.empty).size=G) (h1:gs≤100) (h2:ts≤100) :
  Calls Tryz.prog 100 #[.slice aP m c,.int .i64 n,.agg #[.slice ag gs cg,.slice at' ts ct,.int .i64 G]] w fun e w' =>
   ∃ev,e=.returned ev∧Below w.heap.size w w'∧(gs+ts≤m→ev=.nilIface)∧(m<gs+ts→Chain w' 10 1 ev):=by
 obtain ⟨N,hN⟩:∃N,N=gs+ts:=⟨_,rfl⟩
 have hthr:=fun w=>threshold_any ag at' gs cg ts ct G w h1 h2
 rw [←hN] at hthr
 have HTH:=hid hthr
 have HN:=hid hN
 have hN2:N≤200:=by omega
 clear hthr hN
 have EM:=hid em
 clear em
 go_enter Tryz.func100,Tryz.ntmps100
 go_wp2_with fail
 refine (checkStores_ok aP m c n ss ps _ EM.out (by exact hr.keeps ((Below.refl _ _).alloc (Nat.le_refl _) _) (Nat.le_refl _)) (by omega) hn hss hnd).mono ?_
 rintro e w1 ⟨rfl,hb1⟩
 have hz1:w.heap.size<w1.heap.size:=by have:=hb1.size;simp at this;omega
 have hb01:Below w.heap.size w w1:=((Below.refl _ _).alloc (Nat.le_refl _) _).trans (hb1.mono (by simp))
 have c0:w1.cell? ⟨w.heap.size,0,none⟩=some (.slice ag gs cg):=(hb1.cell (by simp)).trans (by simp)
 have c1:w1.cell? ⟨w.heap.size,1,none⟩=some (.slice at' ts ct):=(hb1.cell (by simp)).trans (by simp)
 have c2:w1.cell? ⟨w.heap.size,2,none⟩=some (.int .i64 G):=(hb1.cell (by simp)).trans (by simp)
 clear hb1
 go_wp2_with fail
 refine (checkLengths_ok aP m c G ss ps _ EM.out (by exact hr.keeps hb01 (Nat.le_refl _)) (by omega) hlen).mono ?_
 rintro e w2 ⟨rfl,hb2⟩
 have hz2:=hb2.size
 have d0:w2.cell? ⟨w.heap.size,0,none⟩=some (.slice ag gs cg):=(hb2.cell (by exact hz1)).trans c0
 have d1:w2.cell? ⟨w.heap.size,1,none⟩=some (.slice at' ts ct):=(hb2.cell (by exact hz1)).trans c1
 have d2:w2.cell? ⟨w.heap.size,2,none⟩=some (.int .i64 G):=(hb2.cell (by exact hz1)).trans c2
 have hb02:Below w.heap.size w w2:=hb01.trans (hb2.mono (by omega))
 clear hb2 hb01 c0 c1 c2
 go_wp2_with fail
 refine (HTH.out _).mono ?_
 rintro e w3 ⟨rfl,hb3⟩
 have hb03:Below w.heap.size w w3:=hb02.trans (hb3.mono (by omega))
 by_cases hlt:m<N
 ·have hlt':(m:Int)<(N:Int):=by omega
  go_wp2_with fail
  refine (atCount_small m _ _ 10 0 (by omega) (by decide) _ .hit).mono ?_
  rintro e w5 ⟨e',rfl,hch,hb5⟩
  go_wp2_with fail
  go_ret
  exact ⟨_,rfl,hb03.trans (hb5.mono hb03.size),fun h=>by rw [←HN.out] at h;omega,fun _=>hch⟩
 ·have hlt':¬(m:Int)<(N:Int):=by omega
  go_wp2_with fail
  go_ret
  exact ⟨_,rfl,hb03,fun _=>rfl,fun h=>by rw [←HN.out] at h;omega⟩
end Go.Proofs.YtcegdgmbponapabGreatDoor