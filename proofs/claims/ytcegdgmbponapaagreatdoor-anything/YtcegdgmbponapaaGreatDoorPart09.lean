/-
  What is done to a store: Add, to one where nothing lies.
  The writes of a call, one after another, where none crashes.
  A vault is opened.
  errors.Is over places: is it of that kind?
-/
import Derived.Test.YtcegdgmbponapaaGreatDoorPart08
import Derived.Deep.Onto
import Derived.Test.YtcegdgmbponapaaGreatDoorPart04
namespace Go.Proofs.YtcegdgmbponapaaGreatDoor
open Go.RowKit
attribute [local go_sem ↓] Go.wp_at_zero Go.wp_at_succ

theorem Tryz.infoR : (Tryz.prog.info? 152).map (fun i => (i.zero, i.size, i.bytes)) = some (some (.agg #[.string ByteArray.empty, .int .i64 0, .int .i64 0, .int .i64 0, .int .i64 0, .int .i64 0, .slice none 0 0, .slice none 0 0]), 8, 104) := by kernel_rfl

theorem recs_one (r : RecV) : recs [r] = r.cells := by simp [recs]
theorem owns_below_size {B : Nat} {w w' : World} {base n size : Nat} {e : TypeId} {L : List Value} {v : Value} (h : w.ownsRow base e size v n L) (hb : Below B w w') (hB : w.heap.size ≤ B) : w'.ownsRow base e size v n L :=
  owns_spared h (Spared.ofBelow (own := fun _ => False) hb hB) (fun _ _ h => h)

end Go.Proofs.YtcegdgmbponapaaGreatDoor

namespace Go.Proofs.YtcegdgmbponapaaGreatDoor
open Go.RowKit
attribute [local go_sem ↓] Go.wp_at_zero Go.wp_at_succ

theorem callFn {P : Program} {f : FuncId} {fn : Func} {c : Code} (hf : P.funcs[f]? = some fn) (hname : (fn.name == "runtime.NumGoroutine") = false) (hb : fn.body = some c) (args : Array Value) (w : World) : (callFunc f args).run P w = .ok (.enter f args) w := by
  have h1 : fn.name ≠ "runtime.NumGoroutine" := by simpa using hname
  simp [callFunc, hf, h1, hb]

theorem Tryz.callAdd (args : Array Value) (w : World) : (callFunc 155 args).run Tryz.prog w = .ok (.enter 155 args) w := callFn Tryz.func155 (by kernel_rfl) rfl args w
theorem Tryz.callLay (args : Array Value) (w : World) : (callFunc 183 args).run Tryz.prog w = .ok (.enter 183 args) w := callFn Tryz.func183 (by kernel_rfl) rfl args w
theorem Tryz.callTurn (args : Array Value) (w : World) : (callFunc 184 args).run Tryz.prog w = .ok (.enter 184 args) w := callFn Tryz.func184 (by kernel_rfl) rfl args w
end Go.Proofs.YtcegdgmbponapaaGreatDoor

namespace Go.Proofs.YtcegdgmbponapaaGreatDoor
open Go.RowKit
attribute [local go_sem ↓] Go.wp_at_zero Go.wp_at_succ

theorem Tryz.infoP : (Tryz.prog.info? 147).map (fun i => (i.zero, i.size, i.bytes)) = some (some (.pointer none), 1, 8) := by kernel_rfl

theorem alloc_at (w : World) (o : Obj) : (w.alloc o).heap[w.heap.size]? = some o := by
  show (w.heap.push o)[w.heap.size]? = _
  simp

theorem row_ne {w : World} {base n size : Nat} {e e' : TypeId} {L : List Value} {v : Value} {b : Nat} {cs : Array Value} (h : w.ownsRow base e size v n L) (hb : w.heap[b]? = some (.cells cs e')) (he : e ≠ e') : v.ownBlock ≠ some b := by
  intro hv
  rcases h with ⟨_, ⟨rfl, _⟩ | ⟨g, cap, cur, rfl, _, h4, _⟩⟩
  · cases hv
  · cases hv
    rw [h4] at hb
    simp at hb
    exact he hb.2

end Go.Proofs.YtcegdgmbponapaaGreatDoor

namespace Go.Proofs.YtcegdgmbponapaaGreatDoor
open Go.RowKit Go.Extern.Stop Go.Stop Go.Extern
attribute [local go_sem ↓] Go.wp_at_zero Go.wp_at_succ

theorem Tryz.eqlPK (v : Value) (k : Int) (w : World) : (binOp .eql 97 (.iface 212 v) (.iface 136 (.int .i64 k))).run Tryz.prog w = .ok (.bool false) w := by kernel_rfl
theorem Tryz.eqlKK (j k : Int) (w : World) : (binOp .eql 97 (.iface 136 (.int .i64 j)) (.iface 136 (.int .i64 k))).run Tryz.prog w = .ok (.bool (j == k)) w := by kernel_rfl
theorem Tryz.eqlNN (w : World) : (binOp .eql 97 .nilIface .nilIface).run Tryz.prog w = .ok (.bool true) w := by kernel_rfl
theorem Tryz.eqlNK (v : Value) (w : World) : (binOp .eql 97 .nilIface (.iface 136 v)).run Tryz.prog w = .ok (.bool false) w := by kernel_rfl
theorem Tryz.eqlKN (v : Value) (w : World) : (binOp .eql 97 (.iface 136 v) .nilIface).run Tryz.prog w = .ok (.bool false) w := by kernel_rfl
theorem Tryz.eqlPN (v : Value) (w : World) : (binOp .eql 97 (.iface 212 v) .nilIface).run Tryz.prog w = .ok (.bool false) w := by kernel_rfl
theorem Tryz.methodComparable (h : Value) (w : World) : (Go.method 508 269 (.agg #[h]) "Comparable").run Tryz.prog w = .ok (311, .agg #[h]) w := by kernel_rfl
theorem Tryz.comparableE (w : World) : (ReflectliteType.method (fun t => do Rtype.noPackHeld "Comparable" t; (fun a => Value.bool a.comparable) <$> typeInfo t) #[.agg #[.pointer (some ⟨5, 136, none⟩)]]).run Tryz.prog w = .ok (.bool true) w := by kernel_rfl
theorem Tryz.assertIsP (v : Value) (w : World) : (Instr.typeAssert (.iface 212 v) 97 347 true).run Tryz.prog w = .ok (.tuple #[.nilIface, .bool false]) w := run_typeAssert_lacksB Tryz.underlying347 (by kernel_rfl) (by kernel_rfl) v _ w
theorem Tryz.assertIsK (v : Value) (w : World) : (Instr.typeAssert (.iface 136 v) 97 347 true).run Tryz.prog w = .ok (.tuple #[.nilIface, .bool false]) w := run_typeAssert_lacksB Tryz.underlying347 (by kernel_rfl) (by kernel_rfl) v _ w
theorem Tryz.assertUnK (v : Value) (w : World) : (Instr.typeAssert (.iface 136 v) 97 277 true).run Tryz.prog w = .ok (.tuple #[.nilIface, .bool false]) w := run_typeAssert_lacksB Tryz.underlying277 (by kernel_rfl) (by kernel_rfl) v _ w
theorem Tryz.assertUnsK (v : Value) (w : World) : (Instr.typeAssert (.iface 136 v) 97 278 true).run Tryz.prog w = .ok (.tuple #[.nilIface, .bool false]) w := run_typeAssert_lacksB Tryz.underlying278 (by kernel_rfl) (by kernel_rfl) v _ w

set_option maxRecDepth 100000 in
set_option maxHeartbeats 4000000 in
theorem is_any (k kt : Int) (w : World) (d : Nat) (e : Value) (hc : Chain w k d e) (hd : d ≤ 10) :
    Calls Tryz.prog 241 #[e, .iface 136 (.int .i64 kt), .bool true] w fun ev w' => ev = .returned (.bool (k == kt)) ∧ w' = w := by
  have q1 := Tryz.eqlPK
  have q2 := Tryz.eqlKK
  have sI := Tryz.assertIsP
  have sK := Tryz.assertIsK
  have sU := Tryz.assertUnwrap
  have sV := Tryz.assertUnK
  have sW := Tryz.assertUnsK
  have mU := Tryz.methodUnwrap
  have HC := hid hc
  clear hc
  go_enter Tryz.func241, Tryz.ntmps241
  go_wp2_with fail
  go_loopw [0] (fun e wr => ∃ d, d ≤ 10 ∧ Chain wr k d e ∧ wr = w) (fun e wr => deep wr 10 e)
  case atStart => exact ⟨d, hd, HC.out, rfl⟩
  case round =>
    obtain ⟨d', hd', hc', rfl⟩ := hrel
    have hm := hc'.deep 10 hd'
    cases hc' with
    | hit =>
      by_cases hk : k = kt
      · subst hk
        have hkk : (k == k) = true := by simp
        go_wp2_with fail
        go_ret
        exact ⟨congrArg (fun b => Ending.returned (.bool b)) hkk.symm, rfl⟩
      · have hkk : (k == kt) = false := by simp [hk]
        have HKK := hid hkk
        go_wp2_with fail
        go_ret
        exact ⟨congrArg (fun b => Ending.returned (.bool b)) HKK.out.symm, rfl⟩
    | place d2 b e2 h2 hcell hlt =>
      have h3 := h2.deep 10 (by omega)
      have HM := hid hm
      have H3 := hid h3
      have H2 := hid h2
      obtain ⟨te, ve, rfl⟩ := h2.shape
      clear hm h3 h2
      go_wp2_with (go_at_call 306; refine (unwrap_any b _ _ hcell).mono ?_; rintro ev w2 ⟨rfl, rfl⟩)
      exact ⟨⟨d2, by omega, H2.out, trivial⟩, by rw [H3.out, HM.out]; omega⟩

set_option maxRecDepth 100000 in
set_option maxHeartbeats 4000000 in
theorem Is_any (k kt : Int) (w : World) (d : Nat) (e : Value) (hc : Chain w k d e) (hd : d ≤ 10) :
    Calls Tryz.prog 211 #[e, .iface 136 (.int .i64 kt)] w fun ev w' => ev = .returned (.bool (k == kt)) ∧ w' = w := by
  have HI := hid (is_any k kt w d e hc hd)
  obtain ⟨te, ve, rfl⟩ := hc.shape
  have h1 := @run_callFunc_extern Tryz.prog 171 _ ReflectliteType.typeOf Tryz.func171 (by kernel_rfl) (by kernel_rfl) (by kernel_rfl) (by kernel_rfl)
  have h2 := @run_callFunc_extern Tryz.prog 311 _ (ReflectliteType.method (fun t => do Rtype.noPackHeld "Comparable" t; pure (.bool (← typeInfo t).comparable))) Tryz.func311 (by kernel_rfl) (by kernel_rfl) (by kernel_rfl) (by kernel_rfl)
  have tE := Tryz.typeOfE
  have mC := Tryz.methodComparable
  have cE := Tryz.comparableE
  have n1 := Tryz.eqlKN
  have hn : (binOp .eql 97 (.iface te ve) .nilIface).run Tryz.prog w = .ok (.bool false) w := by
    cases hc with
    | hit => exact Tryz.eqlKN _ _
    | place => exact Tryz.eqlPN _ _
  clear hc
  go_enter Tryz.func211, Tryz.ntmps211
  go_wp2_with (go_at_call 241; refine HI.out.mono ?_; rintro e w1 ⟨rfl, rfl⟩)
  go_ret
  exact ⟨rfl, rfl⟩

set_option maxRecDepth 100000 in
theorem Is_nil (kt : Int) (w : World) :
    Calls Tryz.prog 211 #[.nilIface, .iface 136 (.int .i64 kt)] w fun ev w' => ev = .returned (.bool false) ∧ w' = w := by
  have n1 := Tryz.eqlNN
  have n2 := Tryz.eqlNK
  go_enter Tryz.func211, Tryz.ntmps211
  go_wp2
  go_ret
  exact ⟨rfl, rfl⟩
end Go.Proofs.YtcegdgmbponapaaGreatDoor
