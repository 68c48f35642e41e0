import Derived.Test.YtcegdgmbponapaaGreatDoorPart02
import Derived.Test.YtcegdgmbponapaaGreatDoorCards
import Derived.Test.YtcegdgmbponapaaGreatDoorTie
import Derived.LaidMore
import Derived.Lib.SmallJoins
import Derived.Stop.Asserts
set_option maxRecDepth 100000
set_option maxHeartbeats 4000000
namespace Go.Proofs.YtcegdgmbponapaaGreatDoor
open Go.RowKit
attribute [local go_sem ↓] Go.wp_at_zero Go.wp_at_succ
end Go.Proofs.YtcegdgmbponapaaGreatDoor
namespace Go.Proofs.YtcegdgmbponapaaGreatDoor
open Go.ChangeShapes Go.WideShapes Go.ChangeAt Go.RowKit Go.Joins
open Go.ChangeMaps (open_string shut_string)
theorem own:ownKnob Tryz.prog.godebug=none:=by kernel_rfl
theorem Tryz.cellsPlan:Tryz.prog.cellsOf 29=3:=by kernel_rfl
theorem door_met (os:Os) (args:Array Value):laidMetH Tryz.prog [("math/bits.deBruijn32tab",Rows.laid_math_bits_deBruijn32tab),("math/bits.deBruijn64tab",Rows.laid_math_bits_deBruijn64tab),("internal/strconv.uint64pow10",Rows.laid_internal_strconv_uint64pow10),("errors.errorType",Rows.laid_errors_errorType)] ((World.doorLaid Tryz.prog 31 os).forCall (fun _ _=>0) ⟨#[],args,[]⟩).memory :=
 laidMetH_of_parts3 (fuel:=8) (laidMet_of_run' 8 (by kernel_rfl) (by kernel_rfl)) (by kernel_rfl) (by kernel_rfl)
theorem qby {n:Int} (h:(Lit.int .i64 n).wf=true):I64 n:=by
 have:=bounds_i64 h
 unfold I64
 omega
theorem Tryz.cellsInt:Tryz.prog.cellsOf 3=1:=by kernel_rfl
theorem Tryz.laidOut:laidOutB Tryz.prog=true:=by kernel_rfl
end Go.Proofs.YtcegdgmbponapaaGreatDoor
namespace Go.Proofs.YtcegdgmbponapaaGreatDoor
open Go.RowKit Go.Extern.Stop Go.Stop Go.Extern
attribute [local go_sem ↓] Go.wp_at_zero Go.wp_at_succ
theorem Tryz.valueOfT (t:Addr) (w:World):(ReflectliteValue.unpack (.iface 138 (.pointer (some t)))).run Tryz.prog w
  = .ok (.agg #[.pointer (some ⟨5,138,none⟩),.pointer (some ⟨w.heap.size,0,none⟩),.int .u64 150]) (w.alloc (.cells #[.pointer (some t)] 138)):=by kernel_rfl
theorem Tryz.typeT (a:Addr) (w:World):(ReflectliteValue.methodAny (ReflectliteValue.valueError "reflectlite.Value.Type" 0) (fun t _ _ _=>ReflectliteType.toType t) #[.agg #[.pointer (some ⟨5,138,none⟩),.pointer (some a),.int .u64 150]]).run Tryz.prog w
  = .ok (.iface 269 (.agg #[.pointer (some ⟨5,138,none⟩)])) w:=by kernel_rfl
theorem Tryz.methodKind (h:Value) (w:World):(Go.method 508 269 (.agg #[h]) "Kind").run Tryz.prog w=.ok (298,h) w:=by kernel_rfl
theorem Tryz.kindT (w:World):((ReflectliteType.abiMethod fun t=>(fun a:Nat=>Value.int IntKind.u8 (a:Int)) <$> Rtype.kind t) #[.pointer (some ⟨5,138,none⟩)]).run Tryz.prog w=.ok (.int .u8 22) w:=by kernel_rfl
theorem Tryz.kindE (w:World):((ReflectliteType.abiMethod fun t=>(fun a:Nat=>Value.int IntKind.u8 (a:Int)) <$> Rtype.kind t) #[.pointer (some ⟨5,136,none⟩)]).run Tryz.prog w=.ok (.int .u8 2) w:=by kernel_rfl
theorem rlm (z:Sem Value) (f:TypeId→Addr→Nat→Nat→Sem Value) (v:Value) :
  ReflectliteValue.method z f #[v]=(do match ←ReflectliteValue.parts v with | none=>z | some (t,a,fl)=>f t a fl (fl % 32)):=rfl
theorem Tryz.partsT (a:Addr) (w:World):(ReflectliteValue.parts (.agg #[.pointer (some ⟨5,138,none⟩),.pointer (some a),.int .u64 150])).run Tryz.prog w=.ok (some (138,a,150)) w:=by kernel_rfl
theorem Tryz.isNilT (a p:Addr) (W:World) (ha:W.cell? a=some (.pointer (some p))) :
  (ReflectliteValue.method (ReflectliteValue.valueError "reflectlite.Value.IsNil" 0) ReflectliteValue.isNil #[.agg #[.pointer (some ⟨5,138,none⟩),.pointer (some a),.int .u64 150]]).run Tryz.prog W=.ok (.bool false) W:=by
 rw [rlm]
 simp only [Sem.run_bind,Tryz.partsT,Result.andThen]
 simp [ReflectliteValue.isNil,loadVar,isAgg,underlying,Tryz.underlying138,ha,Result.andThen]
theorem Tryz.methodElem (h:Value) (w:World):(Go.method 508 269 (.agg #[h]) "Elem").run Tryz.prog w=.ok (312,.agg #[h]) w:=by kernel_rfl
theorem Tryz.methodImplements (h:Value) (w:World):(Go.method 508 269 (.agg #[h]) "Implements").run Tryz.prog w=.ok (313,.agg #[h]) w:=by kernel_rfl
theorem Tryz.methodAssignableTo (h:Value) (w:World):(Go.method 508 269 (.agg #[h]) "AssignableTo").run Tryz.prog w=.ok (310,.agg #[h]) w:=by kernel_rfl
theorem Tryz.methodUnwrap (a:Option Addr) (w:World):(Go.method 508 212 (.pointer a) "Unwrap").run Tryz.prog w=.ok (306,.pointer a) w:=by kernel_rfl
theorem Tryz.elemT (w:World):(ReflectliteType.method ReflectliteType.elem #[.agg #[.pointer (some ⟨5,138,none⟩)]]).run Tryz.prog w=.ok (.iface 269 (.agg #[.pointer (some ⟨5,136,none⟩)])) w:=by kernel_rfl
theorem Tryz.implementsE (w:World):(ReflectliteType.relation "Implements" ReflectliteType.implements_ #[.agg #[.pointer (some ⟨5,136,none⟩)],.iface 269 (.agg #[.pointer (some ⟨5,97,none⟩)])]).run Tryz.prog w=.ok (.bool true) w:=by kernel_rfl
theorem Tryz.typeOfE (v:Value) (w:World):(ReflectliteType.typeOf #[.iface 136 v]).run Tryz.prog w=.ok (.iface 269 (.agg #[.pointer (some ⟨5,136,none⟩)])) w:=by kernel_rfl
theorem Tryz.typeOfP (v:Value) (w:World):(ReflectliteType.typeOf #[.iface 212 v]).run Tryz.prog w=.ok (.iface 269 (.agg #[.pointer (some ⟨5,212,none⟩)])) w:=by kernel_rfl
theorem Tryz.assignableE (w:World):(ReflectliteType.relation "AssignableTo" ReflectliteType.assignableTo #[.agg #[.pointer (some ⟨5,136,none⟩)],.iface 269 (.agg #[.pointer (some ⟨5,136,none⟩)])]).run Tryz.prog w=.ok (.bool true) w:=by kernel_rfl
theorem Tryz.assignableP (w:World):(ReflectliteType.relation "AssignableTo" ReflectliteType.assignableTo #[.agg #[.pointer (some ⟨5,212,none⟩)],.iface 269 (.agg #[.pointer (some ⟨5,136,none⟩)])]).run Tryz.prog w=.ok (.bool false) w:=by kernel_rfl
theorem Tryz.valueOfE (k:Int) (w:World):(ReflectliteValue.unpack (.iface 136 (.int .i64 k))).run Tryz.prog w
  = .ok (.agg #[.pointer (some ⟨5,136,none⟩),.pointer (some ⟨w.heap.size,0,none⟩),.int .u64 130]) (w.alloc (.cells #[.int .i64 k] 136)):=by kernel_rfl
theorem Tryz.elemOfT (w:World):(Rtype.elem? 138).run Tryz.prog w=.ok (some 136) w:=by kernel_rfl
theorem Tryz.mkE (p:Addr) (w:World):(ReflectliteValue.mk 136 p ReflectliteValue.flagAddr).run Tryz.prog w=.ok (.agg #[.pointer (some ⟨5,136,none⟩),.pointer (some p),.int .u64 386]) w:=by kernel_rfl
theorem Tryz.elemVT (a p:Addr) (W:World) (ha:W.cell? a=some (.pointer (some p))) :
  (ReflectliteValue.method (ReflectliteValue.valueError "reflectlite.Value.Elem" 0) ReflectliteValue.elem #[.agg #[.pointer (some ⟨5,138,none⟩),.pointer (some a),.int .u64 150]]).run Tryz.prog W
   = .ok (.agg #[.pointer (some ⟨5,136,none⟩),.pointer (some p),.int .u64 386]) W:=by
 rw [rlm]
 simp only [Sem.run_bind,Tryz.partsT,Result.andThen]
 simp [ReflectliteValue.elem,loadVar,isAgg,underlying,Tryz.underlying138,ha,Result.andThen,Tryz.elemOfT,Tryz.mkE]
theorem Tryz.partsE (a:Addr) (w:World):(ReflectliteValue.parts (.agg #[.pointer (some ⟨5,136,none⟩),.pointer (some a),.int .u64 386])).run Tryz.prog w=.ok (some (136,a,386)) w:=by kernel_rfl
theorem Tryz.partsE' (a:Addr) (w:World):(ReflectliteValue.parts (.agg #[.pointer (some ⟨5,136,none⟩),.pointer (some a),.int .u64 130])).run Tryz.prog w=.ok (some (136,a,130)) w:=by kernel_rfl
theorem Tryz.directE (w:World):(Rtype.directlyAssignable 136 136).run Tryz.prog w=.ok true w:=by kernel_rfl
theorem lit1 (a b:Value) (h1:(#[a,b]:Array Value).size=2) (h2:1<2):(#[a,b]:Array Value).getLit 1 h1 h2=b:=rfl
theorem Tryz.setE (ta b:Addr) (k:Int) (old:Value) (W:World) (hb:W.cell? b=some (.int .i64 k)) (ht:W.cell? ta=some old) (hf:W.frozen? ta=false) :
  (ReflectliteValue.set #[.agg #[.pointer (some ⟨5,136,none⟩),.pointer (some ta),.int .u64 386],.agg #[.pointer (some ⟨5,136,none⟩),.pointer (some b),.int .u64 130]]).run Tryz.prog W
   = .ok (.tuple #[]) (W.setCell ta (.int .i64 k)):=by
 refine Eq.trans (b:=Sem.run Tryz.prog (Bind.bind (ReflectliteValue.parts (.agg #[.pointer (some ⟨5,136,none⟩),.pointer (some ta),.int .u64 386])) _) W) rfl ?_
 simp only [Sem.run_bind,lit1,Tryz.partsE,Tryz.partsE',Result.andThen]
 simp [ReflectliteValue.flagAddr,loadVar,isAgg,underlying,Tryz.underlying136,hb,Result.andThen,Tryz.directE,storeVar,Value.cells,storeCells,Addr.add]
 rw [run_store Tryz.prog W ta _ _ (by rfl)]
 simp [ht,hf]
theorem Tryz.assertAs (v:Value) (w:World):(Instr.typeAssert (.iface 212 v) 97 274 true).run Tryz.prog w=.ok (.tuple #[.nilIface,.bool false]) w:=run_typeAssert_lacksB Tryz.underlying274 (by kernel_rfl) (by kernel_rfl) v _ w
theorem Tryz.assertUnwrap (v:Value) (w:World):(Instr.typeAssert (.iface 212 v) 97 277 true).run Tryz.prog w=.ok (.tuple #[.iface 212 v,.bool true]) w:=run_typeAssert_hasB Tryz.underlying277 (by kernel_rfl) v _ w
inductive Chain (w:World) (k:Int):Nat→Value→Prop
 | hit:Chain w k 0 (.iface 136 (.int .i64 k))
 | place (d b:Nat) (e:Value) (h:Chain w k d e) (hc:w.cell? ⟨b,1,none⟩=some e) (hb:b<w.heap.size):Chain w k (d+1) (.iface 212 (.pointer (some ⟨b,0,none⟩)))
theorem Chain.keeps {B:Nat} {w w':World} {k:Int} {d:Nat} {e:Value} (h:Chain w k d e) (hb:Below B w w') (hB:w.heap.size≤B):Chain w' k d e:=by
 induction h with
 | hit=>exact .hit
 | place d b e _ hc hlt ih=>exact .place d b e ih ((hb.cell (by show b<B;omega)).trans hc) (Nat.lt_of_lt_of_le hlt hb.size)
theorem Chain.shape {w:World} {k:Int} {d:Nat} {e:Value} (h:Chain w k d e):∃t v,e=.iface t v:=by
 cases h with
 | hit=>exact ⟨_,_,rfl⟩
 | place=>exact ⟨_,_,rfl⟩
def deep (w:World):Nat→Value→Nat
 | 0,_=>0
 | n+1,.iface t (.pointer (some a))=>if t=212 then (match w.cell? ⟨a.block,1,none⟩ with | some e=>deep w n e+1 | none=>0) else 0
 | _+1,_=>0
theorem Chain.deep {w:World} {k:Int} {d:Nat} {e:Value} (h:Chain w k d e):∀n,d≤n→deep w n e=d:=by
 induction h with
 | hit=>intro n _;cases n<;>rfl
 | place d b e _ hc _ ih =>
  intro n hn
  cases n with
  | zero=>omega
  | succ n =>
   show (if 212=212 then (match w.cell? ⟨b,1,none⟩ with | some e=>Go.Proofs.YtcegdgmbponapaaGreatDoor.deep w n e+1 | none=>0) else 0)=d+1
   rw [if_pos rfl,hc]
   show Go.Proofs.YtcegdgmbponapaaGreatDoor.deep w n e+1=d+1
   rw [ih n (by omega)]
theorem qk7 (where_:ByteArray) (t:TypeId) (v:Value) (w:World) :
  Calls Tryz.prog 78 #[.string where_,.iface t v] w fun e w'=>e=.returned (.iface 212 (.pointer (some ⟨w.heap.size,0,none⟩)))∧w'=w.alloc (.cells #[.string where_,.iface t v] 214):=by
 go_enter Tryz.func78,Tryz.ntmps78
 go_wp2
 go_ret
 exact ⟨rfl,rfl⟩
theorem qav (where_:ByteArray) (e:Value) (k:Int) (d:Nat) (w:World) (hc:Chain w k d e) :
  Calls Tryz.prog 78 #[.string where_,e] w fun ev w'=>∃e',ev=.returned e'∧Chain w' k (d+1) e'∧Below w.heap.size w w':=by
 obtain ⟨t,v,rfl⟩:=hc.shape
 refine (qk7 where_ t v w).mono ?_
 rintro ev w' ⟨rfl,rfl⟩
 have hb:=(Below.refl w.heap.size w).alloc nl (.cells #[.string where_,.iface t v] 214)
 exact ⟨_,rfl,.place d _ _ (hc.keeps hb nl) (by simp) (by simp),hb⟩
theorem qfa (b:Nat) (e:Value) (w:World) (h:w.cell? ⟨b,1,none⟩=some e) :
  Calls Tryz.prog 306 #[.pointer (some ⟨b,0,none⟩)] w fun ev w'=>ev=.returned e∧w'=w:=by
 go_enter Tryz.func306,Tryz.ntmps306
 go_wp2
 go_ret
 exact ⟨rfl,rfl⟩
theorem as_hit (tgt:Value) (a t:Addr) (old:Value) (k:Int) (w:World) (ha:w.cell? a=some (.pointer (some t))) (ht:w.cell? t=some old) (hf:w.frozen? t=false) (d:Nat) (e:Value) (hc:Chain w k d e) (hd:d≤10) (ha1:a.block<w.heap.size) (ht1:t.block<w.heap.size) :
  Calls Tryz.prog 129 #[e,tgt,.agg #[.pointer (some ⟨5,138,none⟩),.pointer (some a),.int .u64 150],.iface 269 (.agg #[.pointer (some ⟨5,136,none⟩)])] w fun ev w'=>ev=.returned (.bool true) ∧
   w'=(((w.alloc (.cells #[.pointer (some ⟨5,138,none⟩),.pointer (some a),.int .u64 150] 203)).alloc (.cells #[.int .i64 k] 136)).setCell t (.int .i64 k)):=by
 have h80:=@run_callFunc_extern Tryz.prog 171 _ ReflectliteType.typeOf Tryz.func171 (by kernel_rfl) (by kernel_rfl) (by kernel_rfl) (by kernel_rfl)
 have h127:=@run_callFunc_extern Tryz.prog 310 _ (ReflectliteType.relation "AssignableTo" ReflectliteType.assignableTo) Tryz.func310 (by kernel_rfl) (by kernel_rfl) (by kernel_rfl) (by kernel_rfl)
 have h81:=@run_callFunc_extern Tryz.prog 172 _ (ReflectliteValue.method (ReflectliteValue.valueError "reflectlite.Value.Elem" 0) ReflectliteValue.elem) Tryz.func172 (by kernel_rfl) (by kernel_rfl) (by kernel_rfl) (by kernel_rfl)
 have h68:=@run_callFunc_extern Tryz.prog 126 _ (fun args=>ReflectliteValue.unpack (args.getD 0 (.tuple #[]))) Tryz.func126 (by kernel_rfl) (by kernel_rfl) (by kernel_rfl) (by kernel_rfl)
 have h82:=@run_callFunc_extern Tryz.prog 173 _ ReflectliteValue.set Tryz.func173 (by kernel_rfl) (by kernel_rfl) (by kernel_rfl) (by kernel_rfl)
 have tE:=Tryz.typeOfE
 have tP:=Tryz.typeOfP
 have mA:=Tryz.methodAssignableTo
 have mU:=Tryz.methodUnwrap
 have aE:=Tryz.assignableE
 have aP:=Tryz.assignableP
 have vE:=Tryz.valueOfE
 have sA:=Tryz.assertAs
 have sU:=Tryz.assertUnwrap
 have hba:=(Below.refl w.heap.size w).alloc nl (.cells #[.pointer (some ⟨5,138,none⟩),.pointer (some a),.int .u64 150] 203)
 have hc1:=hc.keeps hba nl
 have el:=Tryz.elemVT a t (w.alloc (.cells #[.pointer (some ⟨5,138,none⟩),.pointer (some a),.int .u64 150] 203)) (by rw [hba.cell ha1];exact ha)
 have st:=Tryz.setE t ⟨w.heap.size+1,0,none⟩ k old ((w.alloc (.cells #[.pointer (some ⟨5,138,none⟩),.pointer (some a),.int .u64 150] 203)).alloc (.cells #[.int .i64 k] 136))
  (by rw [World.cell?_alloc_at _ _ _ _ (by simp)];rfl)
  (by rw [World.cell?_alloc_lt _ _ t (by simp;omega),World.cell?_alloc_lt _ _ t ht1];exact ht)
  (by rw [World.frozen?_alloc_old _ _ t (by simp;omega),World.frozen?_alloc_old _ _ t (Nat.ne_of_lt ht1)];exact hf)
 have HC:=hid hc1
 clear hc hc1
 go_enter Tryz.func129,Tryz.ntmps129
 go_wp2_with fail
 go_loopw [0] (fun e wr=>∃d,d≤10∧Chain wr k d e∧wr=w.alloc (.cells #[.pointer (some ⟨5,138,none⟩),.pointer (some a),.int .u64 150] 203)) (fun e wr=>deep wr 10 e)
 case atStart=>exact ⟨d,hd,HC.out,rfl⟩
 case round =>
  obtain ⟨d',hd',hc',rfl⟩:=hrel
  have hm:=hc'.deep 10 hd'
  cases hc' with
  | hit =>
   go_wp2_with fail
   go_ret
   exact ⟨rfl,rfl⟩
  | place d2 b e2 h2 hcell hlt =>
   have h3:=h2.deep 10 (by omega)
   have HM:=hid hm
   have H3:=hid h3
   have H2:=hid h2
   obtain ⟨te,ve,rfl⟩:=h2.shape
   clear hm h3 h2
   go_wp2_with (go_at_call 306;refine (qfa b _ _ hcell).mono ?_;rintro ev w2 ⟨rfl,rfl⟩)
   exact ⟨⟨d2,by omega,H2.out,trivial⟩,by rw [H3.out,HM.out];omega⟩
def qaJ (w:World):Prop:=w.cell? ⟨0,0,none⟩=some (.iface 269 (.agg #[.pointer (some ⟨5,97,none⟩)]))∧0<w.heap.size
theorem qaJ.keeps {B:Nat} {w w':World} (h:qaJ w) (hb:Below B w w') (hB:w.heap.size≤B):qaJ w' :=
 ⟨(hb.cell (by show 0<B;have:=h.2;omega)).trans h.1,Nat.lt_of_lt_of_le h.2 hb.size⟩
theorem As_hit (t:Addr) (old:Value) (k:Int) (w:World) (ht:w.cell? t=some old) (hf:w.frozen? t=false) (d:Nat) (e:Value) (hc:Chain w k d e) (hd:d≤10) (ht1:t.block<w.heap.size) (hg:qaJ w) :
  Calls Tryz.prog 76 #[e,.iface 138 (.pointer (some t))] w fun ev w'=>ev=.returned (.bool true)∧w'.cell? t=some (.int .i64 k)∧Below t.block w w':=by
 have h68:=@run_callFunc_extern Tryz.prog 126 _ (fun args=>ReflectliteValue.unpack (args.getD 0 (.tuple #[]))) Tryz.func126 (by kernel_rfl) (by kernel_rfl) (by kernel_rfl) (by kernel_rfl)
 have h69:=@run_callFunc_extern Tryz.prog 127 _ (ReflectliteValue.methodAny (ReflectliteValue.valueError "reflectlite.Value.Type" 0) (fun t _ _ _=>ReflectliteType.toType t)) Tryz.func127 (by kernel_rfl) (by kernel_rfl) (by kernel_rfl) (by kernel_rfl)
 have h70:=@run_callFunc_extern Tryz.prog 128 _ (ReflectliteValue.method (ReflectliteValue.valueError "reflectlite.Value.IsNil" 0) ReflectliteValue.isNil) Tryz.func128 (by kernel_rfl) (by kernel_rfl) (by kernel_rfl) (by kernel_rfl)
 have h117:=@run_callFunc_extern Tryz.prog 298 _ (ReflectliteType.abiMethod fun t=>do pure (.int .u8 (←Rtype.kind t))) Tryz.func298 (by kernel_rfl) (by kernel_rfl) (by kernel_rfl) (by kernel_rfl)
 have h129:=@run_callFunc_extern Tryz.prog 312 _ (ReflectliteType.method ReflectliteType.elem) Tryz.func312 (by kernel_rfl) (by kernel_rfl) (by kernel_rfl) (by kernel_rfl)
 have h130:=@run_callFunc_extern Tryz.prog 313 _ (ReflectliteType.relation "Implements" ReflectliteType.implements_) Tryz.func313 (by kernel_rfl) (by kernel_rfl) (by kernel_rfl) (by kernel_rfl)
 have f6:=Tryz.valueOfT
 have f7:=Tryz.typeT
 have mK:=Tryz.methodKind
 have mE:=Tryz.methodElem
 have mI:=Tryz.methodImplements
 have kT:=Tryz.kindT
 have kE:=Tryz.kindE
 have eT:=Tryz.elemT
 have iE:=Tryz.implementsE
 obtain ⟨te,ve,rfl⟩:=hc.shape
 have hb1:=(Below.refl w.heap.size w).alloc nl (.cells #[.pointer (some t)] 138)
 have hb2:=hb1.alloc (by simp) (.cells #[.pointer (some ⟨5,138,none⟩),.pointer (some ⟨w.heap.size,0,none⟩),.int .u64 150] 203)
 have n8:=Tryz.isNilT ⟨w.heap.size,0,none⟩ t ((w.alloc (.cells #[.pointer (some t)] 138)).alloc (.cells #[.pointer (some ⟨5,138,none⟩),.pointer (some ⟨w.heap.size,0,none⟩),.int .u64 150] 203)) (by simp)
 have hg2:=(hg.keeps hb2 nl).1
 have HC:=hid (hc.keeps hb2 nl)
 have HH:=hid (as_hit (.iface 138 (.pointer (some t))) ⟨w.heap.size,0,none⟩ t old k ((w.alloc (.cells #[.pointer (some t)] 138)).alloc (.cells #[.pointer (some ⟨5,138,none⟩),.pointer (some ⟨w.heap.size,0,none⟩),.int .u64 150] 203)) (by simp) ((hb2.cell ht1).trans ht) ((hb2.frozen ht1).trans hf) d _ (hc.keeps hb2 nl) hd (by simp;omega) (by simp;omega))
 clear hc
 go_enter Tryz.func76,Tryz.ntmps76
 go_wp2_with (go_at_call 129;refine HH.out.mono ?_;rintro ev w2 ⟨rfl,rfl⟩)
 go_ret
 have hb4:=(hb2.alloc (by simp;omega) (.cells #[.pointer (some ⟨5,138,none⟩),.pointer (some ⟨w.heap.size,0,none⟩),.int .u64 150] 203)).alloc (by simp;omega) (.cells #[.int .i64 k] 136)
 exact ⟨rfl,World.cell?_setCell_same _ _ _ ((hb4.cell ht1).trans ht),(hb4.mono (by omega)).setCell nl _⟩
theorem qaD (k:Int) (w:World) (d:Nat) (e:Value) (hc:Chain w k d e) (hd:d≤10) (hg:qaJ w) :
  Calls Tryz.prog 44 #[e] w fun ev w'=>ev=.returned (.int .i64 k)∧Below w.heap.size w w':=by
 obtain ⟨te,ve,rfl⟩:=hc.shape
 have hb1:=(Below.refl w.heap.size w).alloc nl (.cells #[.int .i64 0] 136)
 have HH:=hid (As_hit ⟨w.heap.size,0,none⟩ (.int .i64 0) k (w.alloc (.cells #[.int .i64 0] 136)) (by simp) (by simp) d _ (hc.keeps hb1 nl) hd (by simp) (hg.keeps hb1 nl))
 clear hc hg
 go_enter Tryz.func44,Tryz.ntmps44
 go_wp2_with (go_at_call 76;refine HH.out.mono ?_;rintro ev w2 ⟨rfl,hcell,hb2⟩)
 go_ret
 exact ⟨rfl,hb1.trans (by simpa using hb2)⟩
end Go.Proofs.YtcegdgmbponapaaGreatDoor
namespace Go.Proofs.YtcegdgmbponapaaGreatDoor
open Go.RowKit
attribute [local go_sem ↓] Go.wp_at_zero Go.wp_at_succ
def PRd (w:World) (a:Option Addr) (ss:List Nat) (ps:List ByteArray):Prop :=
 ∀i,i<ss.length→∃b o,a=some ⟨b,o,none⟩∧b<w.heap.size∧w.cell? ⟨b,o+i*2,none⟩=some (.int .i64 (ss.getD i 0:Nat))∧w.cell? ⟨b,o+i*2+1,none⟩=some (.string (ps.getD i ByteArray.empty))
theorem PRd.keeps {B:Nat} {w w':World} {a:Option Addr} {ss:List Nat} {ps:List ByteArray} (h:PRd w a ss ps) (hb:Below B w w') (hB:w.heap.size≤B):PRd w' a ss ps:=by
 intro i hi
 obtain ⟨b,o,h1,h2,h3,h4⟩:=h i hi
 exact ⟨b,o,h1,Nat.lt_of_lt_of_le h2 hb.size,(hb.cell (by show b<B;omega)).trans h3,(hb.cell (by show b<B;omega)).trans h4⟩
theorem qdk (ag at':Option Addr) (gs cg ts ct ng:Nat) (w:World) (h1:gs≤100) (h2:ts≤100) :
  Calls Tryz.prog 100 #[.agg #[.slice ag gs cg,.slice at' ts ct,.int .i64 ng]] w fun e w'=>e=.returned (.int .i64 ((gs+ts:Nat):Int))∧Below w.heap.size w w':=by
 go_enter Tryz.func100,Tryz.ntmps100
 go_wp2
 first
 | (go_ret;exact ⟨qbo (by omega),(Below.refl _ _).alloc nl _⟩)
 | (go_quiet (fail);go_wp2;go_ret;exact ⟨qbo (by omega),below_drewN ((Below.refl _ _).alloc nl _) _⟩)
theorem qkW (i:Nat) (h:i<10) (w:World) :
  Calls Tryz.prog 254 #[.int .i64 i] w fun e w'=>(∃s:ByteArray,e=.returned (.string s)∧s.size≤2)∧w'=w:=by
 go_enter Tryz.func254,Tryz.ntmps254
 go_wp2
 go_ret
 exact ⟨⟨_,rfl,by simp;omega⟩,rfl⟩
theorem qic (i:Nat) (h:i<10) (w:World) :
  Calls Tryz.prog 174 #[.int .i64 i] w fun e w'=>(∃s:ByteArray,e=.returned (.string s)∧s.size≤2)∧w'=w:=by
 have h1:Calls Tryz.prog 242 #[.int .i64 i,.int .i64 10] w fun e w'=>(∃s:ByteArray,e=.returned (.string s)∧s.size≤2)∧w'=w:=by
  go_enter Tryz.func242,Tryz.ntmps242
  go_wp2_with (go_at_call 254;refine (qkW i h _).mono ?_;rintro e w1 ⟨⟨s,rfl,hs⟩,rfl⟩)
  go_ret
  exact ⟨⟨_,rfl,hs⟩,rfl⟩
 have h2:Calls Tryz.prog 212 #[.int .i64 i] w fun e w'=>(∃s:ByteArray,e=.returned (.string s)∧s.size≤2)∧w'=w:=by
  go_enter Tryz.func212,Tryz.ntmps212
  go_wp2_with (go_at_call 242;refine h1.mono ?_;rintro e w1 ⟨⟨s,rfl,hs⟩,rfl⟩)
  go_ret
  exact ⟨⟨_,rfl,hs⟩,rfl⟩
 go_enter Tryz.func174,Tryz.ntmps174
 go_wp2_with (go_at_call 212;refine h2.mono ?_;rintro e w1 ⟨⟨s,rfl,hs⟩,rfl⟩)
 go_ret
 exact ⟨⟨_,rfl,hs⟩,rfl⟩
theorem qf9 (i:Nat) (what:ByteArray) (e:Value) (k:Int) (d:Nat) (h:i<10) (hw:what.size≤100) (w:World) (hc:Chain w k d e) :
  Calls Tryz.prog 130 #[.int .i64 i,.string what,e] w fun ev w'=>∃e',ev=.returned e'∧Chain w' k (d+1) e'∧Below w.heap.size w w':=by
 obtain ⟨te,ve,rfl⟩:=hc.shape
 have HC:=hid hc
 clear hc
 go_enter Tryz.func130,Tryz.ntmps130
 go_wp2_with (first | (go_at_call 174;refine (qic i h _).mono ?_;rintro e w1 ⟨⟨s,rfl,hs⟩,rfl⟩)|(go_at_call 78;refine (qav _ _ k d _ HC.out).mono ?_;rintro e w2 ⟨e',rfl,hch,hb2⟩))
 go_ret
 exact ⟨_,rfl,hch,hb2⟩
theorem qei (aP:Option Addr) (m c G:Nat) (ss:List Nat) (ps:List ByteArray) (w:World) (em:m=ss.length) (hr:PRd w aP ss ps) (hm:m≤100) (hlen:∀i,i<m→(ps.getD i ByteArray.empty).size=G) :
  Calls Tryz.prog 151 #[.slice aP m c,.int .i64 G] w fun e w'=>e=.returned .nilIface∧Below w.heap.size w w':=by
 have EM:=hid em
 have HL:=hid hlen
 clear em hlen
 go_enter Tryz.func151,Tryz.ntmps151
 go_wp2_with fail
 go_loopw [9] (fun i wr=>∃k:Nat,k≤m∧i=.int .i64 k∧Below w.heap.size w wr) (fun i _=>m-(intOf i).toNat)
 case atStart=>exact ⟨0,Nat.zero_le _,rfl,bl⟩
 case round =>
  obtain ⟨k,hk,rfl,hbel⟩:=hrel
  have hzb:=hbel.size
  by_cases hlt:k<m
  ·obtain ⟨b,o,rfl,hb,h1,h2⟩:=hr k (by rw [←EM.out];exact hlt)
   have c1:wr.cell? ⟨b,o+k*2,none⟩=some (.int .i64 (ss.getD k 0:Nat)):=(hbel.cell (by exact hb)).trans h1
   have c2:wr.cell? ⟨b,o+k*2+1,none⟩=some (.string (ps.getD k ByteArray.empty)):=(hbel.cell (by exact hb)).trans h2
   have hsz:=HL.out k hlt
   generalize ps.getD k ByteArray.empty=p at *
   generalize ss.getD k 0=s at *
   have hk1:(k:Int)<(m:Int):=by omega
   have hne:((p.size:Int) != (G:Int))=false:=by rw [hsz];simp
   clear h1 h2 hsz hr
   go_wp2_with fail
   go_roundw
   case rel=>exact ⟨k+1,by omega,by go_num,hbel.alloc hzb _⟩
   case measure=>simp [intOf];omega
  ·go_wp2
   go_ret
   exact ⟨rfl,hbel⟩
theorem qe5 (aP:Option Addr) (m c n:Nat) (ss:List Nat) (ps:List ByteArray) (w:World) (em:m=ss.length) (hr:PRd w aP ss ps) (hm:m≤100) (hn:n≤8) (hss:∀s∈ss,s<n) (hnd:ss.Nodup) :
  Calls Tryz.prog 150 #[.slice aP m c,.int .i64 n] w fun e w'=>e=.returned .nilIface∧Below w.heap.size w w':=by
 have EM:=hid em
 have HSS:=hid hss
 have HND:=hid hnd
 clear em hss hnd
 go_enter Tryz.func150,Tryz.ntmps150
 go_wp2_with fail
 go_loopw [10] (fun i wr=>∃k:Nat,k≤m∧i=.int .i64 k∧(∀j,j<8→wr.cell? ⟨w.heap.size,j,none⟩=some (.bool (decide (j∈ss.take k)))∧wr.frozen? ⟨w.heap.size,j,none⟩=false)∧w.heap.size<wr.heap.size∧Below w.heap.size w wr) (fun i _=>m-(intOf i).toNat)
 case atStart =>
  refine ⟨0,Nat.zero_le _,rfl,fun j hj=>?_,by simp,(Below.refl _ _).alloc nl _⟩
  have:j=0∨j=1∨j=2∨j=3∨j=4∨j=5∨j=6∨j=7:=by omega
  rcases this with rfl | rfl | rfl | rfl | rfl | rfl | rfl | rfl<;>simp
 case round =>
  obtain ⟨k,hk,rfl,hnm,hz,hbel⟩:=hrel
  have hzb:=hbel.size
  have HNM:=hid hnm
  clear hnm
  by_cases hlt:k<m
  ·have hkl:k<ss.length:=by rw [←EM.out];exact hlt
   obtain ⟨b,o,rfl,hb,h1,h2⟩:=hr k hkl
   have c1:wr.cell? ⟨b,o+k*2,none⟩=some (.int .i64 (ss.getD k 0:Nat)):=(hbel.cell (by exact hb)).trans h1
   have c2:wr.cell? ⟨b,o+k*2+1,none⟩=some (.string (ps.getD k ByteArray.empty)):=(hbel.cell (by exact hb)).trans h2
   obtain ⟨s,hs⟩:∃s,s=ss.getD k 0:=⟨_,rfl⟩
   have hsk:s=ss[k]:=by rw [hs];simp [hkl]
   have hsn:s<n:=by rw [hsk];exact HSS.out _ (List.getElem_mem hkl)
   have hnot:s ∉ ss.take k:=by
    rw [hsk]
    intro hmem
    obtain ⟨i,hi,e⟩:=List.getElem_of_mem hmem
    have hik:i<k:=by simp at hi;omega
    rw [List.getElem_take] at e
    have:=(List.getElem_inj HND.out (h₀:=by omega) (h₁:=hkl)).1 e
    omega
   obtain ⟨hcs,hfs⟩:=HNM.out s (by omega)
   rw [decide_eq_false hnot] at hcs
   have HTK:=hid (show ss.take (k+1)=ss.take k++[s] by rw [List.take_succ_eq_append_getElem hkl,hsk])
   rw [←hs] at c1
   generalize ps.getD k ByteArray.empty=p at *
   have hk1:(k:Int)<(m:Int):=by omega
   have hs0:(0:Int)≤(s:Int):=by omega
   have hs1:(s:Int)<(n:Int):=by omega
   have hs8:(s:Int)<8:=by omega
   clear h1 h2 hr hs hsk hnot
   have hb1:∀c,Below wr.heap.size wr (wr.alloc c):=fun c=>(Below.refl _ _).alloc nl c
   have q1:∀c,(wr.alloc c).cell? ⟨w.heap.size,s,none⟩=some (.bool false):=fun c=>((hb1 c).cell (by exact hz)).trans hcs
   have q2:∀c,(wr.alloc c).frozen? ⟨w.heap.size,s,none⟩=false:=fun c=>((hb1 c).frozen (by exact hz)).trans hfs
   clear hb1
   go_wp2_with fail
   go_roundw
   case rel =>
    refine ⟨k+1,by omega,by go_num,fun j hj=>?_,by simp;omega,(hbel.setCell (p:=⟨w.heap.size,s,none⟩) nl _).alloc (by simp;omega) _⟩
    rw [World.cell?_alloc_lt _ _ ⟨w.heap.size,j,none⟩ (by simpa using hz),World.frozen?_alloc_old _ _ ⟨w.heap.size,j,none⟩ (by simp;omega)]
    obtain ⟨h1,h2⟩:=HNM.out j hj
    refine ⟨?_,by simpa using h2⟩
    rw [HTK.out]
    by_cases hjs:j=s
    ·subst hjs
     rw [World.cell?_setCell_same _ _ _ hcs]
     simp
    ·rw [World.cell?_setCell_other _ _ _ _ (by intro e;apply hjs;injection e with _ e2;exact e2.symm),h1]
     simp [hjs]
   case measure=>simp [intOf];omega
  ·go_wp2
   go_ret
   exact ⟨rfl,hbel⟩
theorem qc0 (aP:Option Addr) (m c n:Nat) (ss:List Nat) (ps:List ByteArray) (ag at':Option Addr) (gs cg ts ct G:Nat) (w:World) (em:m=ss.length) (hr:PRd w aP ss ps) (hm:m≤9) (hn:n≤8) (hss:∀s∈ss,s<n) (hnd:ss.Nodup)
  (hlen:∀i,i<m→(ps.getD i ByteArray.empty).size=G) (h1:gs≤100) (h2:ts≤100) :
  Calls Tryz.prog 99 #[.slice aP m c,.int .i64 n,.agg #[.slice ag gs cg,.slice at' ts ct,.int .i64 G]] w fun e w' =>
   ∃ev,e=.returned ev∧Below w.heap.size w w'∧(gs+ts≤m→ev=.nilIface)∧(m<gs+ts→Chain w' 10 1 ev):=by
 obtain ⟨N,hN⟩:∃N,N=gs+ts:=⟨_,rfl⟩
 have hthr:=fun w=>qdk ag at' gs cg ts ct G w h1 h2
 rw [←hN] at hthr
 have HTH:=hid hthr
 have HN:=hid hN
 have hN2:N≤200:=by omega
 clear hthr hN
 have EM:=hid em
 clear em
 go_enter Tryz.func99,Tryz.ntmps99
 go_wp2_with fail
 refine (qe5 aP m c n ss ps _ EM.out (by exact hr.keeps ((Below.refl _ _).alloc nl _) nl) (by omega) hn hss hnd).mono ?_
 rintro e w1 ⟨rfl,hb1⟩
 have hz1:w.heap.size<w1.heap.size:=by have:=hb1.size;simp at this;omega
 have hb01:Below w.heap.size w w1:=((Below.refl _ _).alloc nl _).trans (hb1.mono (by simp))
 have c0:w1.cell? ⟨w.heap.size,0,none⟩=some (.slice ag gs cg):=(hb1.cell (by simp)).trans (by simp)
 have c1:w1.cell? ⟨w.heap.size,1,none⟩=some (.slice at' ts ct):=(hb1.cell (by simp)).trans (by simp)
 have c2:w1.cell? ⟨w.heap.size,2,none⟩=some (.int .i64 G):=(hb1.cell (by simp)).trans (by simp)
 clear hb1
 go_wp2_with fail
 refine (qei aP m c G ss ps _ EM.out (by exact hr.keeps hb01 nl) (by omega) hlen).mono ?_
 rintro e w2 ⟨rfl,hb2⟩
 have hz2:=hb2.size
 have d0:w2.cell? ⟨w.heap.size,0,none⟩=some (.slice ag gs cg):=(hb2.cell (by exact hz1)).trans c0
 have d1:w2.cell? ⟨w.heap.size,1,none⟩=some (.slice at' ts ct):=(hb2.cell (by exact hz1)).trans c1
 have d2:w2.cell? ⟨w.heap.size,2,none⟩=some (.int .i64 G):=(hb2.cell (by exact hz1)).trans c2
 have hb02:Below w.heap.size w w2:=hb01.trans (hb2.mono (by omega))
 clear hb2 hb01 c0 c1 c2
 go_wp2_with fail
 refine (HTH.out _).mono ?_
 rintro e w3 ⟨rfl,hb3⟩
 have hb03:Below w.heap.size w w3:=hb02.trans (hb3.mono (by omega))
 by_cases hlt:m<N
 ·have hlt':(m:Int)<(N:Int):=by omega
  go_wp2_with fail
  refine (qf9 m _ _ 10 0 (by omega) (by decide) _ .hit).mono ?_
  rintro e w5 ⟨e',rfl,hch,hb5⟩
  go_wp2_with fail
  go_ret
  exact ⟨_,rfl,hb03.trans (hb5.mono hb03.size),fun h=>by rw [←HN.out] at h;omega,fun _=>hch⟩
 ·have hlt':¬(m:Int)<(N:Int):=by omega
  go_wp2_with fail
  go_ret
  exact ⟨_,rfl,hb03,fun _=>rfl,fun h=>by rw [←HN.out] at h;omega⟩
end Go.Proofs.YtcegdgmbponapaaGreatDoor