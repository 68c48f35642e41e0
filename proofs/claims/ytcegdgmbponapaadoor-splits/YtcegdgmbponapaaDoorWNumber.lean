/-
  The walks of fault.At, errors.As and fault.Number.
-/
import Derived.Test.YtcegdgmbponapaaDoorWErr
namespace Go.Proofs.YtcegdgmbponapaaDoor
open Go.RowKit Go.Extern.Stop Go.Stop Go.Extern
attribute [local go_sem ↓] Go.wp_at_zero Go.wp_at_succ

/-- An error of the kind k, wrapped d times. -/
inductive Chain (w : World) (k : Int) : Nat → Value → Prop
  | hit : Chain w k 0 (.iface 100 (.int .i64 k))
  | place (d b : Nat) (e : Value) (h : Chain w k d e) (hc : w.cell? ⟨b, 1, none⟩ = some e) (hb : b < w.heap.size) : Chain w k (d + 1) (.iface 115 (.pointer (some ⟨b, 0, none⟩)))

theorem Chain.keeps {B : Nat} {w w' : World} {k : Int} {d : Nat} {e : Value} (h : Chain w k d e) (hb : Below B w w') (hB : w.heap.size ≤ B) : Chain w' k d e := by
  induction h with
  | hit => exact .hit
  | place d b e _ hc hlt ih => exact .place d b e ih ((hb.cell (by show b < B; omega)).trans hc) (Nat.lt_of_lt_of_le hlt hb.size)

theorem Chain.shape {w : World} {k : Int} {d : Nat} {e : Value} (h : Chain w k d e) : ∃ t v, e = .iface t v := by
  cases h with
  | hit => exact ⟨_, _, rfl⟩
  | place => exact ⟨_, _, rfl⟩

/-- How deep an error lies, as far as n. -/
def deep (w : World) : Nat → Value → Nat
  | 0, _ => 0
  | n + 1, .iface t (.pointer (some a)) => if t = 115 then (match w.cell? ⟨a.block, 1, none⟩ with | some e => deep w n e + 1 | none => 0) else 0
  | _ + 1, _ => 0

theorem Chain.deep {w : World} {k : Int} {d : Nat} {e : Value} (h : Chain w k d e) : ∀ n, d ≤ n → deep w n e = d := by
  induction h with
  | hit => intro n _; cases n <;> rfl
  | place d b e _ hc _ ih =>
    intro n hn
    cases n with
    | zero => omega
    | succ n =>
      show (if 115 = 115 then (match w.cell? ⟨b, 1, none⟩ with | some e => Go.Proofs.YtcegdgmbponapaaDoor.deep w n e + 1 | none => 0) else 0) = d + 1
      rw [if_pos rfl, hc]
      show Go.Proofs.YtcegdgmbponapaaDoor.deep w n e + 1 = d + 1
      rw [ih n (by omega)]

theorem fault_at (where_ : ByteArray) (t : TypeId) (v : Value) (w : World) :
    Calls Tryd.prog 45 #[.string where_, .iface t v] w fun e w' => e = .returned (.iface 115 (.pointer (some ⟨w.heap.size, 0, none⟩))) ∧ w' = w.alloc (.cells #[.string where_, .iface t v] 117) := by
  go_enter Tryd.func45, Tryd.ntmps45
  go_wp2
  go_ret
  exact ⟨rfl, rfl⟩

/-- Behind At the error lies one deeper. -/
theorem at_chain (where_ : ByteArray) (e : Value) (k : Int) (d : Nat) (w : World) (hc : Chain w k d e) :
    Calls Tryd.prog 45 #[.string where_, e] w fun ev w' => ∃ e', ev = .returned e' ∧ Chain w' k (d + 1) e' ∧ Below w.heap.size w w' := by
  obtain ⟨t, v, rfl⟩ := hc.shape
  refine (fault_at where_ t v w).mono ?_
  rintro ev w' ⟨rfl, rfl⟩
  have hb := (Below.refl w.heap.size w).alloc (Nat.le_refl _) (.cells #[.string where_, .iface t v] 117)
  exact ⟨_, rfl, .place d _ _ (hc.keeps hb (Nat.le_refl _)) (by simp) (by simp), hb⟩

theorem unwrap_any (b : Nat) (e : Value) (w : World) (h : w.cell? ⟨b, 1, none⟩ = some e) :
    Calls Tryd.prog 124 #[.pointer (some ⟨b, 0, none⟩)] w fun ev w' => ev = .returned e ∧ w' = w := by
  go_enter Tryd.func124, Tryd.ntmps124
  go_wp2
  go_ret
  exact ⟨rfl, rfl⟩

set_option maxRecDepth 100000 in
set_option maxHeartbeats 4000000 in
theorem as_hit (tgt : Value) (a t : Addr) (old : Value) (k : Int) (w : World) (ha : w.cell? a = some (.pointer (some t))) (ht : w.cell? t = some old) (hf : w.frozen? t = false) (d : Nat) (e : Value) (hc : Chain w k d e) (hd : d ≤ 10) (ha1 : a.block < w.heap.size) (ht1 : t.block < w.heap.size) :
    Calls Tryd.prog 73 #[e, tgt, .agg #[.pointer (some ⟨4, 102, none⟩), .pointer (some a), .int .u64 150], .iface 145 (.agg #[.pointer (some ⟨4, 100, none⟩)])] w fun ev w' => ev = .returned (.bool true) ∧
      w' = (((w.alloc (.cells #[.pointer (some ⟨4, 102, none⟩), .pointer (some a), .int .u64 150] 132)).alloc (.cells #[.int .i64 k] 100)).setCell t (.int .i64 k)) := by
  have h80 := @run_callFunc_extern Tryd.prog 82 _ ReflectliteType.typeOf Tryd.func82 (by kernel_rfl) (by kernel_rfl) (by kernel_rfl) (by kernel_rfl)
  have h127 := @run_callFunc_extern Tryd.prog 129 _ (ReflectliteType.relation "AssignableTo" ReflectliteType.assignableTo) Tryd.func129 (by kernel_rfl) (by kernel_rfl) (by kernel_rfl) (by kernel_rfl)
  have h81 := @run_callFunc_extern Tryd.prog 83 _ (ReflectliteValue.method (ReflectliteValue.valueError "reflectlite.Value.Elem" 0) ReflectliteValue.elem) Tryd.func83 (by kernel_rfl) (by kernel_rfl) (by kernel_rfl) (by kernel_rfl)
  have h68 := @run_callFunc_extern Tryd.prog 70 _ (fun args => ReflectliteValue.unpack (args.getD 0 (.tuple #[]))) Tryd.func70 (by kernel_rfl) (by kernel_rfl) (by kernel_rfl) (by kernel_rfl)
  have h82 := @run_callFunc_extern Tryd.prog 84 _ ReflectliteValue.set Tryd.func84 (by kernel_rfl) (by kernel_rfl) (by kernel_rfl) (by kernel_rfl)
  have tE := Tryd.typeOfE
  have tP := Tryd.typeOfP
  have mA := Tryd.methodAssignableTo
  have mU := Tryd.methodUnwrap
  have aE := Tryd.assignableE
  have aP := Tryd.assignableP
  have vE := Tryd.valueOfE
  have sA := Tryd.assertAs
  have sU := Tryd.assertUnwrap
  have hba := (Below.refl w.heap.size w).alloc (Nat.le_refl _) (.cells #[.pointer (some ⟨4, 102, none⟩), .pointer (some a), .int .u64 150] 132)
  have hc1 := hc.keeps hba (Nat.le_refl _)
  have el := Tryd.elemVT a t (w.alloc (.cells #[.pointer (some ⟨4, 102, none⟩), .pointer (some a), .int .u64 150] 132)) (by rw [hba.cell ha1]; exact ha)
  have st := Tryd.setE t ⟨w.heap.size + 1, 0, none⟩ k old ((w.alloc (.cells #[.pointer (some ⟨4, 102, none⟩), .pointer (some a), .int .u64 150] 132)).alloc (.cells #[.int .i64 k] 100))
    (by rw [World.cell?_alloc_at _ _ _ _ (by simp)]; rfl)
    (by rw [World.cell?_alloc_lt _ _ t (by simp; omega), World.cell?_alloc_lt _ _ t ht1]; exact ht)
    (by rw [World.frozen?_alloc_old _ _ t (by simp; omega), World.frozen?_alloc_old _ _ t (Nat.ne_of_lt ht1)]; exact hf)
  have HC := hid hc1
  clear hc hc1
  go_enter Tryd.func73, Tryd.ntmps73
  go_wp2_with fail
  go_loopw [0] (fun e wr => ∃ d, d ≤ 10 ∧ Chain wr k d e ∧ wr = w.alloc (.cells #[.pointer (some ⟨4, 102, none⟩), .pointer (some a), .int .u64 150] 132)) (fun e wr => deep wr 10 e)
  case atStart => exact ⟨d, hd, HC.out, rfl⟩
  case round =>
    obtain ⟨d', hd', hc', rfl⟩ := hrel
    have hm := hc'.deep 10 hd'
    cases hc' with
    | hit =>
      go_wp2_with fail
      go_ret
      exact ⟨rfl, rfl⟩
    | place d2 b e2 h2 hcell hlt =>
      have h3 := h2.deep 10 (by omega)
      have HM := hid hm
      have H3 := hid h3
      have H2 := hid h2
      obtain ⟨te, ve, rfl⟩ := h2.shape
      clear hm h3 h2
      go_wp2_with (go_at_call 124; refine (unwrap_any b _ _ hcell).mono ?_; rintro ev w2 ⟨rfl, rfl⟩)
      exact ⟨⟨d2, by omega, H2.out, trivial⟩, by rw [H3.out, HM.out]; omega⟩

/-- What errors.errorType holds. -/
def ErrType (w : World) : Prop := w.cell? ⟨0, 0, none⟩ = some (.iface 145 (.agg #[.pointer (some ⟨4, 68, none⟩)])) ∧ 0 < w.heap.size

theorem ErrType.keeps {B : Nat} {w w' : World} (h : ErrType w) (hb : Below B w w') (hB : w.heap.size ≤ B) : ErrType w' :=
  ⟨(hb.cell (by show 0 < B; have := h.2; omega)).trans h.1, Nat.lt_of_lt_of_le h.2 hb.size⟩

set_option maxRecDepth 100000 in
set_option maxHeartbeats 4000000 in
theorem As_hit (t : Addr) (old : Value) (k : Int) (w : World) (ht : w.cell? t = some old) (hf : w.frozen? t = false) (d : Nat) (e : Value) (hc : Chain w k d e) (hd : d ≤ 10) (ht1 : t.block < w.heap.size) (hg : ErrType w) :
    Calls Tryd.prog 53 #[e, .iface 102 (.pointer (some t))] w fun ev w' => ev = .returned (.bool true) ∧ w'.cell? t = some (.int .i64 k) ∧ Below t.block w w' := by
  have h68 := @run_callFunc_extern Tryd.prog 70 _ (fun args => ReflectliteValue.unpack (args.getD 0 (.tuple #[]))) Tryd.func70 (by kernel_rfl) (by kernel_rfl) (by kernel_rfl) (by kernel_rfl)
  have h69 := @run_callFunc_extern Tryd.prog 71 _ (ReflectliteValue.methodAny (ReflectliteValue.valueError "reflectlite.Value.Type" 0) (fun t _ _ _ => ReflectliteType.toType t)) Tryd.func71 (by kernel_rfl) (by kernel_rfl) (by kernel_rfl) (by kernel_rfl)
  have h70 := @run_callFunc_extern Tryd.prog 72 _ (ReflectliteValue.method (ReflectliteValue.valueError "reflectlite.Value.IsNil" 0) ReflectliteValue.isNil) Tryd.func72 (by kernel_rfl) (by kernel_rfl) (by kernel_rfl) (by kernel_rfl)
  have h117 := @run_callFunc_extern Tryd.prog 119 _ (ReflectliteType.abiMethod fun t => do pure (.int .u8 (← Rtype.kind t))) Tryd.func119 (by kernel_rfl) (by kernel_rfl) (by kernel_rfl) (by kernel_rfl)
  have h129 := @run_callFunc_extern Tryd.prog 131 _ (ReflectliteType.method ReflectliteType.elem) Tryd.func131 (by kernel_rfl) (by kernel_rfl) (by kernel_rfl) (by kernel_rfl)
  have h130 := @run_callFunc_extern Tryd.prog 132 _ (ReflectliteType.relation "Implements" ReflectliteType.implements_) Tryd.func132 (by kernel_rfl) (by kernel_rfl) (by kernel_rfl) (by kernel_rfl)
  have f6 := Tryd.valueOfT
  have f7 := Tryd.typeT
  have mK := Tryd.methodKind
  have mE := Tryd.methodElem
  have mI := Tryd.methodImplements
  have kT := Tryd.kindT
  have kE := Tryd.kindE
  have eT := Tryd.elemT
  have iE := Tryd.implementsE
  obtain ⟨te, ve, rfl⟩ := hc.shape
  have hb1 := (Below.refl w.heap.size w).alloc (Nat.le_refl _) (.cells #[.pointer (some t)] 102)
  have hb2 := hb1.alloc (by simp) (.cells #[.pointer (some ⟨4, 102, none⟩), .pointer (some ⟨w.heap.size, 0, none⟩), .int .u64 150] 132)
  have n8 := Tryd.isNilT ⟨w.heap.size, 0, none⟩ t ((w.alloc (.cells #[.pointer (some t)] 102)).alloc (.cells #[.pointer (some ⟨4, 102, none⟩), .pointer (some ⟨w.heap.size, 0, none⟩), .int .u64 150] 132)) (by simp)
  have hg2 := (hg.keeps hb2 (Nat.le_refl _)).1
  have HC := hid (hc.keeps hb2 (Nat.le_refl _))
  have HH := hid (as_hit (.iface 102 (.pointer (some t))) ⟨w.heap.size, 0, none⟩ t old k ((w.alloc (.cells #[.pointer (some t)] 102)).alloc (.cells #[.pointer (some ⟨4, 102, none⟩), .pointer (some ⟨w.heap.size, 0, none⟩), .int .u64 150] 132)) (by simp) ((hb2.cell ht1).trans ht) ((hb2.frozen ht1).trans hf) d _ (hc.keeps hb2 (Nat.le_refl _)) hd (by simp; omega) (by simp; omega))
  clear hc
  go_enter Tryd.func53, Tryd.ntmps53
  go_wp2_with (go_at_call 73; refine HH.out.mono ?_; rintro ev w2 ⟨rfl, rfl⟩)
  go_ret
  have hb4 := (hb2.alloc (by simp; omega) (.cells #[.pointer (some ⟨4, 102, none⟩), .pointer (some ⟨w.heap.size, 0, none⟩), .int .u64 150] 132)).alloc (by simp; omega) (.cells #[.int .i64 k] 100)
  exact ⟨rfl, World.cell?_setCell_same _ _ _ ((hb4.cell ht1).trans ht), (hb4.mono (by omega)).setCell (Nat.le_refl _) _⟩

set_option maxRecDepth 100000 in
theorem number_chain (k : Int) (w : World) (d : Nat) (e : Value) (hc : Chain w k d e) (hd : d ≤ 10) (hg : ErrType w) :
    Calls Tryd.prog 30 #[e] w fun ev w' => ev = .returned (.int .i64 k) ∧ Below w.heap.size w w' := by
  obtain ⟨te, ve, rfl⟩ := hc.shape
  have hb1 := (Below.refl w.heap.size w).alloc (Nat.le_refl _) (.cells #[.int .i64 0] 100)
  have HH := hid (As_hit ⟨w.heap.size, 0, none⟩ (.int .i64 0) k (w.alloc (.cells #[.int .i64 0] 100)) (by simp) (by simp) d _ (hc.keeps hb1 (Nat.le_refl _)) hd (by simp) (hg.keeps hb1 (Nat.le_refl _)))
  clear hc hg
  go_enter Tryd.func30, Tryd.ntmps30
  go_wp2_with (go_at_call 53; refine HH.out.mono ?_; rintro ev w2 ⟨rfl, hcell, hb2⟩)
  go_ret
  exact ⟨rfl, hb1.trans (by simpa using hb2)⟩
end Go.Proofs.YtcegdgmbponapaaDoor
