/-
  The walks of cofferkeep.in and cofferkeep.chosen.
  What the proofs of the cards have in common: the door's heap, a plan as an argument, a slice of ints as an argument.
  Errors: fault.At wraps, errors.As finds the kind within, fault.Number tells it.
-/
import Derived.Test.YtcegdgmbponapabGreatDoorPart04
import Derived.Test.YtcegdgmbponapabGreatDoorCards
import Derived.Test.YtcegdgmbponapabGreatDoorTie
import Derived.ProofKit
import Derived.OpenShut
import Derived.LaidMore
import Derived.Stop.Joined
import Derived.Lib.SmallJoins
import Derived.Carry
import Derived.ChangeSlices
import Derived.Test.YtcegdgmbponapabGreatDoorPart02
import Derived.LaidEql
import Derived.Stop.Asserts
import Derived.RowKitTokens
namespace Go.Proofs.YtcegdgmbponapabGreatDoor
open Go.RowKit
attribute [local go_sem ↓] Go.wp_at_zero Go.wp_at_succ

theorem pigeon : ∀ (n : Nat) (ss : List Nat), ss.Nodup → (∀ f, f < n → f ∈ ss) → n ≤ ss.length
  | 0, _, _, _ => Nat.zero_le _
  | n + 1, ss, hn, h => by
    have h1 : n ∈ ss := h n (by omega)
    have h2 := pigeon n (ss.erase n) (hn.erase n) (fun f hf => (List.mem_erase_of_ne (by omega)).2 (h f (by omega)))
    rw [List.length_erase_of_mem h1] at h2
    have : 0 < ss.length := List.length_pos_of_mem h1
    omega

theorem free_store (n : Nat) (ss : List Nat) (hn : ss.Nodup) (hl : ss.length < n) : ∃ f, f < n ∧ f ∉ ss := by
  refine Classical.byContradiction fun hc => ?_
  have : n ≤ ss.length := pigeon n ss hn (fun f hf => Classical.byContradiction fun h => hc ⟨f, hf, h⟩)
  omega

/-- How far it is from k to f, round n. -/
def dist (n f k : Nat) : Nat := (f + n - k) % n

theorem dist_step (n f k : Nat) (hf : f < n) (hk : k < n) (h : k ≠ f) : dist n f ((k + 1) % n) < dist n f k := by
  unfold dist
  by_cases h1 : k + 1 = n
  · have e1 : (k + 1) % n = 0 := by rw [h1]; exact Nat.mod_self n
    rw [e1]
    have e2 : (f + n - 0) % n = f := by rw [Nat.sub_zero, Nat.add_mod_right]; exact Nat.mod_eq_of_lt hf
    have e3 : (f + n - k) % n = f + 1 := by rw [show f + n - k = f + 1 from by omega]; exact Nat.mod_eq_of_lt (by omega)
    omega
  · rw [Nat.mod_eq_of_lt (show k + 1 < n by omega)]
    by_cases h2 : k < f
    · have e2 : (f + n - (k + 1)) % n = f - (k + 1) := by rw [show f + n - (k + 1) = (f - (k + 1)) + n from by omega, Nat.add_mod_right]; exact Nat.mod_eq_of_lt (by omega)
      have e3 : (f + n - k) % n = f - k := by rw [show f + n - k = (f - k) + n from by omega, Nat.add_mod_right]; exact Nat.mod_eq_of_lt (by omega)
      omega
    · have e2 : (f + n - (k + 1)) % n = f + n - (k + 1) := Nat.mod_eq_of_lt (by omega)
      have e3 : (f + n - k) % n = f + n - k := Nat.mod_eq_of_lt (by omega)
      omega

theorem Tryz.infoIn : (Tryz.prog.info? 3).map (fun i => (i.zero, i.size, i.bytes)) = some (some (.int .i64 0), 1, 8) := by kernel_rfl

def intsZ (zs : List Int) : List Value := zs.map fun z => .int .i64 z
theorem intsZ_get (zs : List Int) (k : Nat) (h : k < zs.length) : (intsZ zs)[k]? = some (.int .i64 zs[k]) := by simp [intsZ, h]
theorem ints_snoc (ss : List Nat) (k : Nat) : ints (ss ++ [k]) = ints ss ++ [.int .i64 (k : Int)] := by simp [ints]

end Go.Proofs.YtcegdgmbponapabGreatDoor

namespace Go.Proofs.YtcegdgmbponapabGreatDoor
open Go.ChangeShapes Go.WideShapes Go.ChangeAt Go.RowKit Go.Joins
open Go.ChangeMaps (open_string shut_string)

theorem own : ownKnob Tryz.prog.godebug = none := by kernel_rfl
theorem Tryz.cellsPlan : Tryz.prog.cellsOf 29 = 3 := by kernel_rfl

/-- The heap that the door's own run leaves meets what the rows list. -/
theorem door_met (os : Os) (args : Array Value) : laidMetH Tryz.prog [("math/bits.deBruijn32tab", Rows.laid_math_bits_deBruijn32tab), ("math/bits.deBruijn64tab", Rows.laid_math_bits_deBruijn64tab), ("internal/strconv.uint64pow10", Rows.laid_internal_strconv_uint64pow10), ("errors.errorType", Rows.laid_errors_errorType)] ((World.doorLaid Tryz.prog 31 os).forCall (fun _ _ => 0) ⟨#[], args, []⟩).memory :=
  laidMetH_of_parts3 (fuel := 8) (laidMet_of_run' 8 (by kernel_rfl) (by kernel_rfl)) (by kernel_rfl) (by kernel_rfl)

theorem i64_of_wf {n : Int} (h : (Lit.int .i64 n).wf = true) : I64 n := by
  have := bounds_i64 h
  unfold I64
  omega


set_option maxRecDepth 100000 in
/-- A plan that is handed in. -/
theorem open_plan {H : Type} {enc : TypeId × Value → H} {W : World} {base : Nat} {v : Value} {d : DataW H} {p : List MemPlace} (hv : Value.okWide Tryz.prog W .any base 29 v) (h : DataW.Trod enc Tryz.prog W 0 (fun _ => true) true 29 v d p) :
    ∃ pm pt pl : Int, v = .agg #[.int .i64 pm, .int .i64 pt, .int .i64 pl] ∧ p = [] ∧ d = .agg [.lit (.int .i64 pm), .lit (.int .i64 pt), .lit (.int .i64 pl)] ∧ I64 pm ∧ I64 pt ∧ I64 pl ∧
      ∀ (W' : World) (sp : Nat → Bool), DataW.Trod enc Tryz.prog W' 0 sp true 29 v d [] := by
  obtain ⟨c0, c1, c2, y0, y1, y2, m, rfl, rfl, rfl, hy0, hy1, hy2⟩ := open_agg3 Tryz.underlying29 (by kernel_rfl) Tryz.cellsPlan hv h
  obtain ⟨pm, e0, rfl, wm⟩ := DataW.trod_int Tryz.underlying3 hy0
  obtain ⟨pt, e1, rfl, wt⟩ := DataW.trod_int Tryz.underlying3 hy1
  obtain ⟨pl, e2, rfl, wl⟩ := DataW.trod_int Tryz.underlying3 hy2
  simp at e0 e1 e2
  subst e0 e1 e2
  exact ⟨pm, pt, pl, rfl, rfl, rfl, i64_of_wf wm, i64_of_wf wt, i64_of_wf wl, fun W' sp => shut_agg3 (y0 := (.lit (.int .i64 pm), [])) (y1 := (.lit (.int .i64 pt), [])) (y2 := (.lit (.int .i64 pl), [])) Tryz.underlying29 (by kernel_rfl) Tryz.cellsPlan ⟨1, by simp [DataW.trod, Tryz.underlying3, wm]⟩ ⟨1, by simp [DataW.trod, Tryz.underlying3, wt]⟩ ⟨1, by simp [DataW.trod, Tryz.underlying3, wl]⟩⟩

theorem Tryz.cellsInt : Tryz.prog.cellsOf 3 = 1 := by kernel_rfl
theorem Tryz.laidOut : laidOutB Tryz.prog = true := by kernel_rfl

end Go.Proofs.YtcegdgmbponapabGreatDoor

namespace Go.Proofs.YtcegdgmbponapabGreatDoor
open Go.RowKit Go.Extern.Stop Go.Stop Go.Extern
attribute [local go_sem ↓] Go.wp_at_zero Go.wp_at_succ

/-! What the model's entries for internal/reflectlite answer at a Kind and at a pointer to one. -/
theorem Tryz.valueOfT (t : Addr) (w : World) : (ReflectliteValue.unpack (.iface 111 (.pointer (some t)))).run Tryz.prog w
    = .ok (.agg #[.pointer (some ⟨5, 111, none⟩), .pointer (some ⟨w.heap.size, 0, none⟩), .int .u64 150]) (w.alloc (.cells #[.pointer (some t)] 111)) := by kernel_rfl
theorem Tryz.typeT (a : Addr) (w : World) : (ReflectliteValue.methodAny (ReflectliteValue.valueError "reflectlite.Value.Type" 0) (fun t _ _ _ => ReflectliteType.toType t) #[.agg #[.pointer (some ⟨5, 111, none⟩), .pointer (some a), .int .u64 150]]).run Tryz.prog w
    = .ok (.iface 199 (.agg #[.pointer (some ⟨5, 111, none⟩)])) w := by kernel_rfl
theorem Tryz.methodKind (h : Value) (w : World) : (Go.method 444 199 (.agg #[h]) "Kind").run Tryz.prog w = .ok (233, h) w := by kernel_rfl
theorem Tryz.kindT (w : World) : ((ReflectliteType.abiMethod fun t => (fun a : Nat => Value.int IntKind.u8 (a : Int)) <$> Rtype.kind t) #[.pointer (some ⟨5, 111, none⟩)]).run Tryz.prog w = .ok (.int .u8 22) w := by kernel_rfl
theorem Tryz.kindE (w : World) : ((ReflectliteType.abiMethod fun t => (fun a : Nat => Value.int IntKind.u8 (a : Int)) <$> Rtype.kind t) #[.pointer (some ⟨5, 109, none⟩)]).run Tryz.prog w = .ok (.int .u8 2) w := by kernel_rfl

theorem rlm (z : Sem Value) (f : TypeId → Addr → Nat → Nat → Sem Value) (v : Value) :
    ReflectliteValue.method z f #[v] = (do match ← ReflectliteValue.parts v with | none => z | some (t, a, fl) => f t a fl (fl % 32)) := rfl
theorem Tryz.partsT (a : Addr) (w : World) : (ReflectliteValue.parts (.agg #[.pointer (some ⟨5, 111, none⟩), .pointer (some a), .int .u64 150])).run Tryz.prog w = .ok (some (111, a, 150)) w := by kernel_rfl
theorem Tryz.isNilT (a p : Addr) (W : World) (ha : W.cell? a = some (.pointer (some p))) :
    (ReflectliteValue.method (ReflectliteValue.valueError "reflectlite.Value.IsNil" 0) ReflectliteValue.isNil #[.agg #[.pointer (some ⟨5, 111, none⟩), .pointer (some a), .int .u64 150]]).run Tryz.prog W = .ok (.bool false) W := by
  rw [rlm]
  simp only [Sem.run_bind, Tryz.partsT, Result.andThen]
  simp [ReflectliteValue.isNil, loadVar, isAgg, underlying, Tryz.underlying111, ha, Result.andThen]

theorem Tryz.methodElem (h : Value) (w : World) : (Go.method 444 199 (.agg #[h]) "Elem").run Tryz.prog w = .ok (247, .agg #[h]) w := by kernel_rfl
theorem Tryz.methodImplements (h : Value) (w : World) : (Go.method 444 199 (.agg #[h]) "Implements").run Tryz.prog w = .ok (248, .agg #[h]) w := by kernel_rfl
theorem Tryz.methodAssignableTo (h : Value) (w : World) : (Go.method 444 199 (.agg #[h]) "AssignableTo").run Tryz.prog w = .ok (245, .agg #[h]) w := by kernel_rfl
theorem Tryz.methodUnwrap (a : Option Addr) (w : World) : (Go.method 444 146 (.pointer a) "Unwrap").run Tryz.prog w = .ok (238, .pointer a) w := by kernel_rfl
theorem Tryz.elemT (w : World) : (ReflectliteType.method ReflectliteType.elem #[.agg #[.pointer (some ⟨5, 111, none⟩)]]).run Tryz.prog w = .ok (.iface 199 (.agg #[.pointer (some ⟨5, 109, none⟩)])) w := by kernel_rfl
theorem Tryz.implementsE (w : World) : (ReflectliteType.relation "Implements" ReflectliteType.implements_ #[.agg #[.pointer (some ⟨5, 109, none⟩)], .iface 199 (.agg #[.pointer (some ⟨5, 76, none⟩)])]).run Tryz.prog w = .ok (.bool true) w := by kernel_rfl
theorem Tryz.typeOfE (v : Value) (w : World) : (ReflectliteType.typeOf #[.iface 109 v]).run Tryz.prog w = .ok (.iface 199 (.agg #[.pointer (some ⟨5, 109, none⟩)])) w := by kernel_rfl
theorem Tryz.typeOfP (v : Value) (w : World) : (ReflectliteType.typeOf #[.iface 146 v]).run Tryz.prog w = .ok (.iface 199 (.agg #[.pointer (some ⟨5, 146, none⟩)])) w := by kernel_rfl
theorem Tryz.assignableE (w : World) : (ReflectliteType.relation "AssignableTo" ReflectliteType.assignableTo #[.agg #[.pointer (some ⟨5, 109, none⟩)], .iface 199 (.agg #[.pointer (some ⟨5, 109, none⟩)])]).run Tryz.prog w = .ok (.bool true) w := by kernel_rfl
theorem Tryz.assignableP (w : World) : (ReflectliteType.relation "AssignableTo" ReflectliteType.assignableTo #[.agg #[.pointer (some ⟨5, 146, none⟩)], .iface 199 (.agg #[.pointer (some ⟨5, 109, none⟩)])]).run Tryz.prog w = .ok (.bool false) w := by kernel_rfl
theorem Tryz.valueOfE (k : Int) (w : World) : (ReflectliteValue.unpack (.iface 109 (.int .i64 k))).run Tryz.prog w
    = .ok (.agg #[.pointer (some ⟨5, 109, none⟩), .pointer (some ⟨w.heap.size, 0, none⟩), .int .u64 130]) (w.alloc (.cells #[.int .i64 k] 109)) := by kernel_rfl

theorem Tryz.elemOfT (w : World) : (Rtype.elem? 111).run Tryz.prog w = .ok (some 109) w := by kernel_rfl
theorem Tryz.mkE (p : Addr) (w : World) : (ReflectliteValue.mk 109 p ReflectliteValue.flagAddr).run Tryz.prog w = .ok (.agg #[.pointer (some ⟨5, 109, none⟩), .pointer (some p), .int .u64 386]) w := by kernel_rfl
theorem Tryz.elemVT (a p : Addr) (W : World) (ha : W.cell? a = some (.pointer (some p))) :
    (ReflectliteValue.method (ReflectliteValue.valueError "reflectlite.Value.Elem" 0) ReflectliteValue.elem #[.agg #[.pointer (some ⟨5, 111, none⟩), .pointer (some a), .int .u64 150]]).run Tryz.prog W
      = .ok (.agg #[.pointer (some ⟨5, 109, none⟩), .pointer (some p), .int .u64 386]) W := by
  rw [rlm]
  simp only [Sem.run_bind, Tryz.partsT, Result.andThen]
  simp [ReflectliteValue.elem, loadVar, isAgg, underlying, Tryz.underlying111, ha, Result.andThen, Tryz.elemOfT, Tryz.mkE]
theorem Tryz.partsE (a : Addr) (w : World) : (ReflectliteValue.parts (.agg #[.pointer (some ⟨5, 109, none⟩), .pointer (some a), .int .u64 386])).run Tryz.prog w = .ok (some (109, a, 386)) w := by kernel_rfl
theorem Tryz.partsE' (a : Addr) (w : World) : (ReflectliteValue.parts (.agg #[.pointer (some ⟨5, 109, none⟩), .pointer (some a), .int .u64 130])).run Tryz.prog w = .ok (some (109, a, 130)) w := by kernel_rfl
theorem Tryz.directE (w : World) : (Rtype.directlyAssignable 109 109).run Tryz.prog w = .ok true w := by kernel_rfl
theorem lit1 (a b : Value) (h1 : (#[a, b] : Array Value).size = 2) (h2 : 1 < 2) : (#[a, b] : Array Value).getLit 1 h1 h2 = b := rfl
theorem Tryz.setE (ta b : Addr) (k : Int) (old : Value) (W : World) (hb : W.cell? b = some (.int .i64 k)) (ht : W.cell? ta = some old) (hf : W.frozen? ta = false) :
    (ReflectliteValue.set #[.agg #[.pointer (some ⟨5, 109, none⟩), .pointer (some ta), .int .u64 386], .agg #[.pointer (some ⟨5, 109, none⟩), .pointer (some b), .int .u64 130]]).run Tryz.prog W
      = .ok (.tuple #[]) (W.setCell ta (.int .i64 k)) := by
  refine Eq.trans (b := Sem.run Tryz.prog (Bind.bind (ReflectliteValue.parts (.agg #[.pointer (some ⟨5, 109, none⟩), .pointer (some ta), .int .u64 386])) _) W) rfl ?_
  simp only [Sem.run_bind, lit1, Tryz.partsE, Tryz.partsE', Result.andThen]
  simp [ReflectliteValue.flagAddr, loadVar, isAgg, underlying, Tryz.underlying109, hb, Result.andThen, Tryz.directE, storeVar, Value.cells, storeCells, Addr.add]
  rw [run_store Tryz.prog W ta _ _ (by rfl)]
  simp [ht, hf]
theorem Tryz.assertAs (v : Value) (w : World) : (Instr.typeAssert (.iface 146 v) 76 204 true).run Tryz.prog w = .ok (.tuple #[.nilIface, .bool false]) w := run_typeAssert_lacksB Tryz.underlying204 (by kernel_rfl) (by kernel_rfl) v _ w
theorem Tryz.assertUnwrap (v : Value) (w : World) : (Instr.typeAssert (.iface 146 v) 76 207 true).run Tryz.prog w = .ok (.tuple #[.iface 146 v, .bool true]) w := run_typeAssert_hasB Tryz.underlying207 (by kernel_rfl) v _ w
end Go.Proofs.YtcegdgmbponapabGreatDoor
