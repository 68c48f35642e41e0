/-
  The walks of fault.At, errors.As and fault.Number.
  The walks of cutting's checks of pieces, where the pieces are right; too few of them.
  Where Split and Join refuse: the plan, the size, the tape.
-/
import Derived.Test.YtcegdgmbponapabGreatDoorPart05
import Derived.Test.YtcegdgmbponapabGreatDoorItoa
import Derived.Test.YtcegdgmbponapabGreatDoorPart03
import Derived.Lib.AppendIntMem
import Derived.Lib.ItoaLen
import Derived.BigQuiet
namespace Go.Proofs.YtcegdgmbponapabGreatDoor
open Go.RowKit Go.Extern.Stop Go.Stop Go.Extern
attribute [local go_sem ↓] Go.wp_at_zero Go.wp_at_succ

/-- An error of the kind k, wrapped d times. -/
inductive Chain (w : World) (k : Int) : Nat → Value → Prop
  | hit : Chain w k 0 (.iface 109 (.int .i64 k))
  | place (d b : Nat) (e : Value) (h : Chain w k d e) (hc : w.cell? ⟨b, 1, none⟩ = some e) (hb : b < w.heap.size) : Chain w k (d + 1) (.iface 146 (.pointer (some ⟨b, 0, none⟩)))

theorem Chain.keeps {B : Nat} {w w' : World} {k : Int} {d : Nat} {e : Value} (h : Chain w k d e) (hb : Below B w w') (hB : w.heap.size ≤ B) : Chain w' k d e := by
  induction h with
  | hit => exact .hit
  | place d b e _ hc hlt ih => exact .place d b e ih ((hb.cell (by show b < B; omega)).trans hc) (Nat.lt_of_lt_of_le hlt hb.size)

theorem Chain.shape {w : World} {k : Int} {d : Nat} {e : Value} (h : Chain w k d e) : ∃ t v, e = .iface t v := by
  cases h with
  | hit => exact ⟨_, _, rfl⟩
  | place => exact ⟨_, _, rfl⟩

/-- How deep an error lies, as far as n. -/
def deep (w : World) : Nat → Value → Nat
  | 0, _ => 0
  | n + 1, .iface t (.pointer (some a)) => if t = 146 then (match w.cell? ⟨a.block, 1, none⟩ with | some e => deep w n e + 1 | none => 0) else 0
  | _ + 1, _ => 0

theorem Chain.deep {w : World} {k : Int} {d : Nat} {e : Value} (h : Chain w k d e) : ∀ n, d ≤ n → deep w n e = d := by
  induction h with
  | hit => intro n _; cases n <;> rfl
  | place d b e _ hc _ ih =>
    intro n hn
    cases n with
    | zero => omega
    | succ n =>
      show (if 146 = 146 then (match w.cell? ⟨b, 1, none⟩ with | some e => Go.Proofs.YtcegdgmbponapabGreatDoor.deep w n e + 1 | none => 0) else 0) = d + 1
      rw [if_pos rfl, hc]
      show Go.Proofs.YtcegdgmbponapabGreatDoor.deep w n e + 1 = d + 1
      rw [ih n (by omega)]

theorem fault_at (where_ : ByteArray) (t : TypeId) (v : Value) (w : World) :
    Calls Tryz.prog 53 #[.string where_, .iface t v] w fun e w' => e = .returned (.iface 146 (.pointer (some ⟨w.heap.size, 0, none⟩))) ∧ w' = w.alloc (.cells #[.string where_, .iface t v] 148) := by
  go_enter Tryz.func53, Tryz.ntmps53
  go_wp2
  go_ret
  exact ⟨rfl, rfl⟩

/-- Behind At the error lies one deeper. -/
theorem at_chain (where_ : ByteArray) (e : Value) (k : Int) (d : Nat) (w : World) (hc : Chain w k d e) :
    Calls Tryz.prog 53 #[.string where_, e] w fun ev w' => ∃ e', ev = .returned e' ∧ Chain w' k (d + 1) e' ∧ Below w.heap.size w w' := by
  obtain ⟨t, v, rfl⟩ := hc.shape
  refine (fault_at where_ t v w).mono ?_
  rintro ev w' ⟨rfl, rfl⟩
  have hb := (Below.refl w.heap.size w).alloc (Nat.le_refl _) (.cells #[.string where_, .iface t v] 148)
  exact ⟨_, rfl, .place d _ _ (hc.keeps hb (Nat.le_refl _)) (by simp) (by simp), hb⟩

theorem unwrap_any (b : Nat) (e : Value) (w : World) (h : w.cell? ⟨b, 1, none⟩ = some e) :
    Calls Tryz.prog 238 #[.pointer (some ⟨b, 0, none⟩)] w fun ev w' => ev = .returned e ∧ w' = w := by
  go_enter Tryz.func238, Tryz.ntmps238
  go_wp2
  go_ret
  exact ⟨rfl, rfl⟩

set_option maxRecDepth 100000 in
set_option maxHeartbeats 4000000 in
theorem as_hit (tgt : Value) (a t : Addr) (old : Value) (k : Int) (w : World) (ha : w.cell? a = some (.pointer (some t))) (ht : w.cell? t = some old) (hf : w.frozen? t = false) (d : Nat) (e : Value) (hc : Chain w k d e) (hd : d ≤ 10) (ha1 : a.block < w.heap.size) (ht1 : t.block < w.heap.size) :
    Calls Tryz.prog 85 #[e, tgt, .agg #[.pointer (some ⟨5, 111, none⟩), .pointer (some a), .int .u64 150], .iface 199 (.agg #[.pointer (some ⟨5, 109, none⟩)])] w fun ev w' => ev = .returned (.bool true) ∧
      w' = (((w.alloc (.cells #[.pointer (some ⟨5, 111, none⟩), .pointer (some a), .int .u64 150] 155)).alloc (.cells #[.int .i64 k] 109)).setCell t (.int .i64 k)) := by
  have h80 := @run_callFunc_extern Tryz.prog 111 _ ReflectliteType.typeOf Tryz.func111 (by kernel_rfl) (by kernel_rfl) (by kernel_rfl) (by kernel_rfl)
  have h127 := @run_callFunc_extern Tryz.prog 245 _ (ReflectliteType.relation "AssignableTo" ReflectliteType.assignableTo) Tryz.func245 (by kernel_rfl) (by kernel_rfl) (by kernel_rfl) (by kernel_rfl)
  have h81 := @run_callFunc_extern Tryz.prog 112 _ (ReflectliteValue.method (ReflectliteValue.valueError "reflectlite.Value.Elem" 0) ReflectliteValue.elem) Tryz.func112 (by kernel_rfl) (by kernel_rfl) (by kernel_rfl) (by kernel_rfl)
  have h68 := @run_callFunc_extern Tryz.prog 82 _ (fun args => ReflectliteValue.unpack (args.getD 0 (.tuple #[]))) Tryz.func82 (by kernel_rfl) (by kernel_rfl) (by kernel_rfl) (by kernel_rfl)
  have h82 := @run_callFunc_extern Tryz.prog 113 _ ReflectliteValue.set Tryz.func113 (by kernel_rfl) (by kernel_rfl) (by kernel_rfl) (by kernel_rfl)
  have tE := Tryz.typeOfE
  have tP := Tryz.typeOfP
  have mA := Tryz.methodAssignableTo
  have mU := Tryz.methodUnwrap
  have aE := Tryz.assignableE
  have aP := Tryz.assignableP
  have vE := Tryz.valueOfE
  have sA := Tryz.assertAs
  have sU := Tryz.assertUnwrap
  have hba := (Below.refl w.heap.size w).alloc (Nat.le_refl _) (.cells #[.pointer (some ⟨5, 111, none⟩), .pointer (some a), .int .u64 150] 155)
  have hc1 := hc.keeps hba (Nat.le_refl _)
  have el := Tryz.elemVT a t (w.alloc (.cells #[.pointer (some ⟨5, 111, none⟩), .pointer (some a), .int .u64 150] 155)) (by rw [hba.cell ha1]; exact ha)
  have st := Tryz.setE t ⟨w.heap.size + 1, 0, none⟩ k old ((w.alloc (.cells #[.pointer (some ⟨5, 111, none⟩), .pointer (some a), .int .u64 150] 155)).alloc (.cells #[.int .i64 k] 109))
    (by rw [World.cell?_alloc_at _ _ _ _ (by simp)]; rfl)
    (by rw [World.cell?_alloc_lt _ _ t (by simp; omega), World.cell?_alloc_lt _ _ t ht1]; exact ht)
    (by rw [World.frozen?_alloc_old _ _ t (by simp; omega), World.frozen?_alloc_old _ _ t (Nat.ne_of_lt ht1)]; exact hf)
  have HC := hid hc1
  clear hc hc1
  go_enter Tryz.func85, Tryz.ntmps85
  go_wp2_with fail
  go_loopw [0] (fun e wr => ∃ d, d ≤ 10 ∧ Chain wr k d e ∧ wr = w.alloc (.cells #[.pointer (some ⟨5, 111, none⟩), .pointer (some a), .int .u64 150] 155)) (fun e wr => deep wr 10 e)
  case atStart => exact ⟨d, hd, HC.out, rfl⟩
  case round =>
    obtain ⟨d', hd', hc', rfl⟩ := hrel
    have hm := hc'.deep 10 hd'
    cases hc' with
    | hit =>
      go_wp2_with fail
      go_ret
      exact ⟨rfl, rfl⟩
    | place d2 b e2 h2 hcell hlt =>
      have h3 := h2.deep 10 (by omega)
      have HM := hid hm
      have H3 := hid h3
      have H2 := hid h2
      obtain ⟨te, ve, rfl⟩ := h2.shape
      clear hm h3 h2
      go_wp2_with (go_at_call 238; refine (unwrap_any b _ _ hcell).mono ?_; rintro ev w2 ⟨rfl, rfl⟩)
      exact ⟨⟨d2, by omega, H2.out, trivial⟩, by rw [H3.out, HM.out]; omega⟩

/-- What errors.errorType holds. -/
def ErrType (w : World) : Prop := w.cell? ⟨0, 0, none⟩ = some (.iface 199 (.agg #[.pointer (some ⟨5, 76, none⟩)])) ∧ 0 < w.heap.size

theorem ErrType.keeps {B : Nat} {w w' : World} (h : ErrType w) (hb : Below B w w') (hB : w.heap.size ≤ B) : ErrType w' :=
  ⟨(hb.cell (by show 0 < B; have := h.2; omega)).trans h.1, Nat.lt_of_lt_of_le h.2 hb.size⟩

set_option maxRecDepth 100000 in
set_option maxHeartbeats 4000000 in
theorem As_hit (t : Addr) (old : Value) (k : Int) (w : World) (ht : w.cell? t = some old) (hf : w.frozen? t = false) (d : Nat) (e : Value) (hc : Chain w k d e) (hd : d ≤ 10) (ht1 : t.block < w.heap.size) (hg : ErrType w) :
    Calls Tryz.prog 55 #[e, .iface 111 (.pointer (some t))] w fun ev w' => ev = .returned (.bool true) ∧ w'.cell? t = some (.int .i64 k) ∧ Below t.block w w' := by
  have h68 := @run_callFunc_extern Tryz.prog 82 _ (fun args => ReflectliteValue.unpack (args.getD 0 (.tuple #[]))) Tryz.func82 (by kernel_rfl) (by kernel_rfl) (by kernel_rfl) (by kernel_rfl)
  have h69 := @run_callFunc_extern Tryz.prog 83 _ (ReflectliteValue.methodAny (ReflectliteValue.valueError "reflectlite.Value.Type" 0) (fun t _ _ _ => ReflectliteType.toType t)) Tryz.func83 (by kernel_rfl) (by kernel_rfl) (by kernel_rfl) (by kernel_rfl)
  have h70 := @run_callFunc_extern Tryz.prog 84 _ (ReflectliteValue.method (ReflectliteValue.valueError "reflectlite.Value.IsNil" 0) ReflectliteValue.isNil) Tryz.func84 (by kernel_rfl) (by kernel_rfl) (by kernel_rfl) (by kernel_rfl)
  have h117 := @run_callFunc_extern Tryz.prog 233 _ (ReflectliteType.abiMethod fun t => do pure (.int .u8 (← Rtype.kind t))) Tryz.func233 (by kernel_rfl) (by kernel_rfl) (by kernel_rfl) (by kernel_rfl)
  have h129 := @run_callFunc_extern Tryz.prog 247 _ (ReflectliteType.method ReflectliteType.elem) Tryz.func247 (by kernel_rfl) (by kernel_rfl) (by kernel_rfl) (by kernel_rfl)
  have h130 := @run_callFunc_extern Tryz.prog 248 _ (ReflectliteType.relation "Implements" ReflectliteType.implements_) Tryz.func248 (by kernel_rfl) (by kernel_rfl) (by kernel_rfl) (by kernel_rfl)
  have f6 := Tryz.valueOfT
  have f7 := Tryz.typeT
  have mK := Tryz.methodKind
  have mE := Tryz.methodElem
  have mI := Tryz.methodImplements
  have kT := Tryz.kindT
  have kE := Tryz.kindE
  have eT := Tryz.elemT
  have iE := Tryz.implementsE
  obtain ⟨te, ve, rfl⟩ := hc.shape
  have hb1 := (Below.refl w.heap.size w).alloc (Nat.le_refl _) (.cells #[.pointer (some t)] 111)
  have hb2 := hb1.alloc (by simp) (.cells #[.pointer (some ⟨5, 111, none⟩), .pointer (some ⟨w.heap.size, 0, none⟩), .int .u64 150] 155)
  have n8 := Tryz.isNilT ⟨w.heap.size, 0, none⟩ t ((w.alloc (.cells #[.pointer (some t)] 111)).alloc (.cells #[.pointer (some ⟨5, 111, none⟩), .pointer (some ⟨w.heap.size, 0, none⟩), .int .u64 150] 155)) (by simp)
  have hg2 := (hg.keeps hb2 (Nat.le_refl _)).1
  have HC := hid (hc.keeps hb2 (Nat.le_refl _))
  have HH := hid (as_hit (.iface 111 (.pointer (some t))) ⟨w.heap.size, 0, none⟩ t old k ((w.alloc (.cells #[.pointer (some t)] 111)).alloc (.cells #[.pointer (some ⟨5, 111, none⟩), .pointer (some ⟨w.heap.size, 0, none⟩), .int .u64 150] 155)) (by simp) ((hb2.cell ht1).trans ht) ((hb2.frozen ht1).trans hf) d _ (hc.keeps hb2 (Nat.le_refl _)) hd (by simp; omega) (by simp; omega))
  clear hc
  go_enter Tryz.func55, Tryz.ntmps55
  go_wp2_with (go_at_call 85; refine HH.out.mono ?_; rintro ev w2 ⟨rfl, rfl⟩)
  go_ret
  have hb4 := (hb2.alloc (by simp; omega) (.cells #[.pointer (some ⟨5, 111, none⟩), .pointer (some ⟨w.heap.size, 0, none⟩), .int .u64 150] 155)).alloc (by simp; omega) (.cells #[.int .i64 k] 109)
  exact ⟨rfl, World.cell?_setCell_same _ _ _ ((hb4.cell ht1).trans ht), (hb4.mono (by omega)).setCell (Nat.le_refl _) _⟩

set_option maxRecDepth 100000 in
theorem number_chain (k : Int) (w : World) (d : Nat) (e : Value) (hc : Chain w k d e) (hd : d ≤ 10) (hg : ErrType w) :
    Calls Tryz.prog 36 #[e] w fun ev w' => ev = .returned (.int .i64 k) ∧ Below w.heap.size w w' := by
  obtain ⟨te, ve, rfl⟩ := hc.shape
  have hb1 := (Below.refl w.heap.size w).alloc (Nat.le_refl _) (.cells #[.int .i64 0] 109)
  have HH := hid (As_hit ⟨w.heap.size, 0, none⟩ (.int .i64 0) k (w.alloc (.cells #[.int .i64 0] 109)) (by simp) (by simp) d _ (hc.keeps hb1 (Nat.le_refl _)) hd (by simp) (hg.keeps hb1 (Nat.le_refl _)))
  clear hc hg
  go_enter Tryz.func36, Tryz.ntmps36
  go_wp2_with (go_at_call 55; refine HH.out.mono ?_; rintro ev w2 ⟨rfl, hcell, hb2⟩)
  go_ret
  exact ⟨rfl, hb1.trans (by simpa using hb2)⟩
end Go.Proofs.YtcegdgmbponapabGreatDoor

namespace Go.Proofs.YtcegdgmbponapabGreatDoor
open Go.RowKit
attribute [local go_sem ↓] Go.wp_at_zero Go.wp_at_succ

/-- A slice of pieces: their stores, their bytes. -/
def PRd (w : World) (a : Option Addr) (ss : List Nat) (ps : List ByteArray) : Prop :=
  ∀ i, i < ss.length → ∃ b o, a = some ⟨b, o, none⟩ ∧ b < w.heap.size ∧ w.cell? ⟨b, o + i * 2, none⟩ = some (.int .i64 (ss.getD i 0 : Nat)) ∧ w.cell? ⟨b, o + i * 2 + 1, none⟩ = some (.string (ps.getD i ByteArray.empty))

theorem PRd.keeps {B : Nat} {w w' : World} {a : Option Addr} {ss : List Nat} {ps : List ByteArray} (h : PRd w a ss ps) (hb : Below B w w') (hB : w.heap.size ≤ B) : PRd w' a ss ps := by
  intro i hi
  obtain ⟨b, o, h1, h2, h3, h4⟩ := h i hi
  exact ⟨b, o, h1, Nat.lt_of_lt_of_le h2 hb.size, (hb.cell (by show b < B; omega)).trans h3, (hb.cell (by show b < B; omega)).trans h4⟩

theorem threshold_any (ag at' : Option Addr) (gs cg ts ct ng : Nat) (w : World) (h1 : gs ≤ 100) (h2 : ts ≤ 100) :
    Calls Tryz.prog 101 #[.agg #[.slice ag gs cg, .slice at' ts ct, .int .i64 ng]] w fun e w' => e = .returned (.int .i64 ((gs + ts : Nat) : Int)) ∧ Below w.heap.size w w' := by
  go_enter Tryz.func101, Tryz.ntmps101
  go_wp2
  first
  | (go_ret; exact ⟨ret_int (by omega), (Below.refl _ _).alloc (Nat.le_refl _) _⟩)
  | (go_quiet (fail); go_wp2; go_ret; exact ⟨ret_int (by omega), below_drewN ((Below.refl _ _).alloc (Nat.le_refl _) _) _⟩)

/-! The numeral of a small number. -/
theorem small_lt (i : Nat) (h : i < 10) (w : World) :
    Calls Tryz.prog 188 #[.int .i64 i] w fun e w' => (∃ s : ByteArray, e = .returned (.string s) ∧ s.size ≤ 2) ∧ w' = w := by
  go_enter Tryz.func188, Tryz.ntmps188
  go_wp2
  go_ret
  exact ⟨⟨_, rfl, by simp; omega⟩, rfl⟩

theorem itoa_small (i : Nat) (h : i < 10) (w : World) :
    Calls Tryz.prog 106 #[.int .i64 i] w fun e w' => (∃ s : ByteArray, e = .returned (.string s) ∧ s.size ≤ 2) ∧ w' = w := by
  have h1 : Calls Tryz.prog 173 #[.int .i64 i, .int .i64 10] w fun e w' => (∃ s : ByteArray, e = .returned (.string s) ∧ s.size ≤ 2) ∧ w' = w := by
    go_enter Tryz.func173, Tryz.ntmps173
    go_wp2_with (go_at_call 188; refine (small_lt i h _).mono ?_; rintro e w1 ⟨⟨s, rfl, hs⟩, rfl⟩)
    go_ret
    exact ⟨⟨_, rfl, hs⟩, rfl⟩
  have h2 : Calls Tryz.prog 145 #[.int .i64 i] w fun e w' => (∃ s : ByteArray, e = .returned (.string s) ∧ s.size ≤ 2) ∧ w' = w := by
    go_enter Tryz.func145, Tryz.ntmps145
    go_wp2_with (go_at_call 173; refine h1.mono ?_; rintro e w1 ⟨⟨s, rfl, hs⟩, rfl⟩)
    go_ret
    exact ⟨⟨_, rfl, hs⟩, rfl⟩
  go_enter Tryz.func106, Tryz.ntmps106
  go_wp2_with (go_at_call 145; refine h2.mono ?_; rintro e w1 ⟨⟨s, rfl, hs⟩, rfl⟩)
  go_ret
  exact ⟨⟨_, rfl, hs⟩, rfl⟩

theorem atCount_small (i : Nat) (what : ByteArray) (e : Value) (k : Int) (d : Nat) (h : i < 10) (hw : what.size ≤ 100) (w : World) (hc : Chain w k d e) :
    Calls Tryz.prog 77 #[.int .i64 i, .string what, e] w fun ev w' => ∃ e', ev = .returned e' ∧ Chain w' k (d + 1) e' ∧ Below w.heap.size w w' := by
  obtain ⟨te, ve, rfl⟩ := hc.shape
  have HC := hid hc
  clear hc
  go_enter Tryz.func77, Tryz.ntmps77
  go_wp2_with (first | (go_at_call 106; refine (itoa_small i h _).mono ?_; rintro e w1 ⟨⟨s, rfl, hs⟩, rfl⟩) | (go_at_call 53; refine (at_chain _ _ k d _ HC.out).mono ?_; rintro e w2 ⟨e', rfl, hch, hb2⟩))
  go_ret
  exact ⟨_, rfl, hch, hb2⟩

set_option maxRecDepth 100000 in
set_option maxHeartbeats 1000000 in
theorem checkLengths_ok (aP : Option Addr) (m c G : Nat) (ss : List Nat) (ps : List ByteArray) (w : World) (em : m = ss.length) (hr : PRd w aP ss ps) (hm : m ≤ 100) (hlen : ∀ i, i < m → (ps.getD i ByteArray.empty).size = G) :
    Calls Tryz.prog 141 #[.slice aP m c, .int .i64 G] w fun e w' => e = .returned .nilIface ∧ Below w.heap.size w w' := by
  have EM := hid em
  have HL := hid hlen
  clear em hlen
  go_enter Tryz.func141, Tryz.ntmps141
  go_wp2_with fail
  go_loopw [9] (fun i wr => ∃ k : Nat, k ≤ m ∧ i = .int .i64 k ∧ Below w.heap.size w wr) (fun i _ => m - (intOf i).toNat)
  case atStart => exact ⟨0, Nat.zero_le _, rfl, Below.refl _ _⟩
  case round =>
    obtain ⟨k, hk, rfl, hbel⟩ := hrel
    have hzb := hbel.size
    by_cases hlt : k < m
    · obtain ⟨b, o, rfl, hb, h1, h2⟩ := hr k (by rw [← EM.out]; exact hlt)
      have c1 : wr.cell? ⟨b, o + k * 2, none⟩ = some (.int .i64 (ss.getD k 0 : Nat)) := (hbel.cell (by exact hb)).trans h1
      have c2 : wr.cell? ⟨b, o + k * 2 + 1, none⟩ = some (.string (ps.getD k ByteArray.empty)) := (hbel.cell (by exact hb)).trans h2
      have hsz := HL.out k hlt
      generalize ps.getD k ByteArray.empty = p at *
      generalize ss.getD k 0 = s at *
      have hk1 : (k : Int) < (m : Int) := by omega
      have hne : ((p.size : Int) != (G : Int)) = false := by rw [hsz]; simp
      clear h1 h2 hsz hr
      go_wp2_with fail
      go_roundw
      case rel => exact ⟨k + 1, by omega, by go_num, hbel.alloc hzb _⟩
      case measure => simp [intOf]; omega
    · go_wp2
      go_ret
      exact ⟨rfl, hbel⟩

set_option maxRecDepth 100000 in
set_option maxHeartbeats 1000000 in
theorem checkStores_ok (aP : Option Addr) (m c n : Nat) (ss : List Nat) (ps : List ByteArray) (w : World) (em : m = ss.length) (hr : PRd w aP ss ps) (hm : m ≤ 100) (hn : n ≤ 8) (hss : ∀ s ∈ ss, s < n) (hnd : ss.Nodup) :
    Calls Tryz.prog 140 #[.slice aP m c, .int .i64 n] w fun e w' => e = .returned .nilIface ∧ Below w.heap.size w w' := by
  have EM := hid em
  have HSS := hid hss
  have HND := hid hnd
  clear em hss hnd
  go_enter Tryz.func140, Tryz.ntmps140
  go_wp2_with fail
  go_loopw [10] (fun i wr => ∃ k : Nat, k ≤ m ∧ i = .int .i64 k ∧ (∀ j, j < 8 → wr.cell? ⟨w.heap.size, j, none⟩ = some (.bool (decide (j ∈ ss.take k))) ∧ wr.frozen? ⟨w.heap.size, j, none⟩ = false) ∧ w.heap.size < wr.heap.size ∧ Below w.heap.size w wr) (fun i _ => m - (intOf i).toNat)
  case atStart =>
    refine ⟨0, Nat.zero_le _, rfl, fun j hj => ?_, by simp, (Below.refl _ _).alloc (Nat.le_refl _) _⟩
    have : j = 0 ∨ j = 1 ∨ j = 2 ∨ j = 3 ∨ j = 4 ∨ j = 5 ∨ j = 6 ∨ j = 7 := by omega
    rcases this with rfl | rfl | rfl | rfl | rfl | rfl | rfl | rfl <;> simp
  case round =>
    obtain ⟨k, hk, rfl, hnm, hz, hbel⟩ := hrel
    have hzb := hbel.size
    have HNM := hid hnm
    clear hnm
    by_cases hlt : k < m
    · have hkl : k < ss.length := by rw [← EM.out]; exact hlt
      obtain ⟨b, o, rfl, hb, h1, h2⟩ := hr k hkl
      have c1 : wr.cell? ⟨b, o + k * 2, none⟩ = some (.int .i64 (ss.getD k 0 : Nat)) := (hbel.cell (by exact hb)).trans h1
      have c2 : wr.cell? ⟨b, o + k * 2 + 1, none⟩ = some (.string (ps.getD k ByteArray.empty)) := (hbel.cell (by exact hb)).trans h2
      obtain ⟨s, hs⟩ : ∃ s, s = ss.getD k 0 := ⟨_, rfl⟩
      have hsk : s = ss[k] := by rw [hs]; simp [hkl]
      have hsn : s < n := by rw [hsk]; exact HSS.out _ (List.getElem_mem hkl)
      have hnot : s ∉ ss.take k := by
        rw [hsk]
        intro hmem
        obtain ⟨i, hi, e⟩ := List.getElem_of_mem hmem
        have hik : i < k := by simp at hi; omega
        rw [List.getElem_take] at e
        have := (List.getElem_inj HND.out (h₀ := by omega) (h₁ := hkl)).1 e
        omega
      obtain ⟨hcs, hfs⟩ := HNM.out s (by omega)
      rw [decide_eq_false hnot] at hcs
      have HTK := hid (show ss.take (k + 1) = ss.take k ++ [s] by rw [List.take_succ_eq_append_getElem hkl, hsk])
      rw [← hs] at c1
      generalize ps.getD k ByteArray.empty = p at *
      have hk1 : (k : Int) < (m : Int) := by omega
      have hs0 : (0 : Int) ≤ (s : Int) := by omega
      have hs1 : (s : Int) < (n : Int) := by omega
      have hs8 : (s : Int) < 8 := by omega
      clear h1 h2 hr hs hsk hnot
      have hb1 : ∀ c, Below wr.heap.size wr (wr.alloc c) := fun c => (Below.refl _ _).alloc (Nat.le_refl _) c
      have q1 : ∀ c, (wr.alloc c).cell? ⟨w.heap.size, s, none⟩ = some (.bool false) := fun c => ((hb1 c).cell (by exact hz)).trans hcs
      have q2 : ∀ c, (wr.alloc c).frozen? ⟨w.heap.size, s, none⟩ = false := fun c => ((hb1 c).frozen (by exact hz)).trans hfs
      clear hb1
      go_wp2_with fail
      go_roundw
      case rel =>
        refine ⟨k + 1, by omega, by go_num, fun j hj => ?_, by simp; omega, (hbel.setCell (p := ⟨w.heap.size, s, none⟩) (Nat.le_refl _) _).alloc (by simp; omega) _⟩
        rw [World.cell?_alloc_lt _ _ ⟨w.heap.size, j, none⟩ (by simpa using hz), World.frozen?_alloc_old _ _ ⟨w.heap.size, j, none⟩ (by simp; omega)]
        obtain ⟨h1, h2⟩ := HNM.out j hj
        refine ⟨?_, by simpa using h2⟩
        rw [HTK.out]
        by_cases hjs : j = s
        · subst hjs
          rw [World.cell?_setCell_same _ _ _ hcs]
          simp
        · rw [World.cell?_setCell_other _ _ _ _ (by intro e; apply hjs; injection e with _ e2; exact e2.symm), h1]
          simp [hjs]
      case measure => simp [intOf]; omega
    · go_wp2
      go_ret
      exact ⟨rfl, hbel⟩

set_option maxRecDepth 100000 in
set_option maxHeartbeats 1000000 in
/-- The pieces are right: there are enough of them, or too few. -/
theorem checkPieces_any (aP : Option Addr) (m c n : Nat) (ss : List Nat) (ps : List ByteArray) (ag at' : Option Addr) (gs cg ts ct G : Nat) (w : World) (em : m = ss.length) (hr : PRd w aP ss ps) (hm : m ≤ 9) (hn : n ≤ 8) (hss : ∀ s ∈ ss, s < n) (hnd : ss.Nodup)
    (hlen : ∀ i, i < m → (ps.getD i ByteArray.empty).size = G) (h1 : gs ≤ 100) (h2 : ts ≤ 100) :
    Calls Tryz.prog 100 #[.slice aP m c, .int .i64 n, .agg #[.slice ag gs cg, .slice at' ts ct, .int .i64 G]] w fun e w' =>
      ∃ ev, e = .returned ev ∧ Below w.heap.size w w' ∧ (gs + ts ≤ m → ev = .nilIface) ∧ (m < gs + ts → Chain w' 10 1 ev) := by
  obtain ⟨N, hN⟩ : ∃ N, N = gs + ts := ⟨_, rfl⟩
  have hthr := fun w => threshold_any ag at' gs cg ts ct G w h1 h2
  rw [← hN] at hthr
  have HTH := hid hthr
  have HN := hid hN
  have hN2 : N ≤ 200 := by omega
  clear hthr hN
  have EM := hid em
  clear em
  go_enter Tryz.func100, Tryz.ntmps100
  go_wp2_with fail
  refine (checkStores_ok aP m c n ss ps _ EM.out (by exact hr.keeps ((Below.refl _ _).alloc (Nat.le_refl _) _) (Nat.le_refl _)) (by omega) hn hss hnd).mono ?_
  rintro e w1 ⟨rfl, hb1⟩
  have hz1 : w.heap.size < w1.heap.size := by have := hb1.size; simp at this; omega
  have hb01 : Below w.heap.size w w1 := ((Below.refl _ _).alloc (Nat.le_refl _) _).trans (hb1.mono (by simp))
  have c0 : w1.cell? ⟨w.heap.size, 0, none⟩ = some (.slice ag gs cg) := (hb1.cell (by simp)).trans (by simp)
  have c1 : w1.cell? ⟨w.heap.size, 1, none⟩ = some (.slice at' ts ct) := (hb1.cell (by simp)).trans (by simp)
  have c2 : w1.cell? ⟨w.heap.size, 2, none⟩ = some (.int .i64 G) := (hb1.cell (by simp)).trans (by simp)
  clear hb1
  go_wp2_with fail
  refine (checkLengths_ok aP m c G ss ps _ EM.out (by exact hr.keeps hb01 (Nat.le_refl _)) (by omega) hlen).mono ?_
  rintro e w2 ⟨rfl, hb2⟩
  have hz2 := hb2.size
  have d0 : w2.cell? ⟨w.heap.size, 0, none⟩ = some (.slice ag gs cg) := (hb2.cell (by exact hz1)).trans c0
  have d1 : w2.cell? ⟨w.heap.size, 1, none⟩ = some (.slice at' ts ct) := (hb2.cell (by exact hz1)).trans c1
  have d2 : w2.cell? ⟨w.heap.size, 2, none⟩ = some (.int .i64 G) := (hb2.cell (by exact hz1)).trans c2
  have hb02 : Below w.heap.size w w2 := hb01.trans (hb2.mono (by omega))
  clear hb2 hb01 c0 c1 c2
  go_wp2_with fail
  refine (HTH.out _).mono ?_
  rintro e w3 ⟨rfl, hb3⟩
  have hb03 : Below w.heap.size w w3 := hb02.trans (hb3.mono (by omega))
  by_cases hlt : m < N
  · have hlt' : (m : Int) < (N : Int) := by omega
    go_wp2_with fail
    refine (atCount_small m _ _ 10 0 (by omega) (by decide) _ .hit).mono ?_
    rintro e w5 ⟨e', rfl, hch, hb5⟩
    go_wp2_with fail
    go_ret
    exact ⟨_, rfl, hb03.trans (hb5.mono hb03.size), fun h => by rw [← HN.out] at h; omega, fun _ => hch⟩
  · have hlt' : ¬ (m : Int) < (N : Int) := by omega
    go_wp2_with fail
    go_ret
    exact ⟨_, rfl, hb03, fun _ => rfl, fun h => by rw [← HN.out] at h; omega⟩
end Go.Proofs.YtcegdgmbponapabGreatDoor

namespace Go.Proofs.YtcegdgmbponapabGreatDoor
open Go.RowKit
attribute [local go_sem ↓] Go.wp_at_zero Go.wp_at_succ

/-- The table that the library's numerals are made by. -/
def Tab (w : World) : Prop := Lib.TabIs Tryz.prog w "internal/strconv.uint64pow10" .u64 Lib.pow10Tab ∧ 2 < w.heap.size

theorem Tab.keeps {B : Nat} {w w' : World} (h : Tab w) (hb : Below B w w') (hB : w.heap.size ≤ B) : Tab w' := by
  refine ⟨?_, Nat.lt_of_lt_of_le h.2 hb.size⟩
  have h1 := h.1
  have hg : Tryz.prog.globalNamed "internal/strconv.uint64pow10" = some 2 := by kernel_rfl
  unfold Lib.TabIs World.var? at h1 ⊢
  rw [hg] at h1 ⊢
  simp only [Option.bind_some] at h1 ⊢
  rw [hb.block _ (Nat.lt_of_lt_of_le h.2 hB)]
  exact h1

theorem itoa_any (z : Int) (hz : I64 z) (w : World) (hT : Tab w) :
    Calls Tryz.prog 106 #[.int .i64 z] w fun e w' => ∃ s : ByteArray, e = .returned (.string s) ∧ s.size ≤ 21 ∧ Below w.heap.size w w' := by
  refine (Tryz.strconv_Itoa z hz.1 hz.2 w hT.1).mono ?_
  rintro e w' ⟨rfl, k, os, rfl⟩
  exact ⟨_, rfl, by show (Lib.itoa z).toArray.size ≤ 21; simpa using Lib.itoa_length_le z hz.1 hz.2, Lib.below_grow _ w (Nat.le_refl _) k os⟩

set_option maxRecDepth 100000 in
theorem atCount_any (z : Int) (what : ByteArray) (e : Value) (k : Int) (d : Nat) (w : World) (hz : I64 z) (hw : what.size ≤ 100) (hT : Tab w) (hc : Chain w k d e) :
    Calls Tryz.prog 77 #[.int .i64 z, .string what, e] w fun ev w' => ∃ e', ev = .returned e' ∧ Chain w' k (d + 1) e' ∧ Below w.heap.size w w' := by
  obtain ⟨te, ve, rfl⟩ := hc.shape
  have HC := hid hc
  have HT := hid hT
  have HZ := hid hz
  clear hc hT hz
  go_enter Tryz.func77, Tryz.ntmps77
  go_wp2_with (first | (go_at_call 106; refine (itoa_any z HZ.out _ HT.out).mono ?_; rintro e w1 ⟨s, rfl, hs, hb1⟩; have HC1 := hid (HC.out.keeps hb1 (Nat.le_refl _))) | (go_at_call 53; refine (at_chain _ _ k d _ HC1.out).mono ?_; rintro e w2 ⟨e', rfl, hch, hb2⟩))
  go_ret
  exact ⟨_, rfl, hch, hb1.trans (hb2.mono hb1.size)⟩

set_option maxRecDepth 100000 in
theorem atStore_any (z : Int) (e : Value) (k : Int) (d : Nat) (w : World) (hz : I64 z) (hT : Tab w) (hc : Chain w k d e) :
    Calls Tryz.prog 79 #[.int .i64 z, e] w fun ev w' => ∃ e', ev = .returned e' ∧ Chain w' k (d + 1) e' ∧ Below w.heap.size w w' := by
  obtain ⟨te, ve, rfl⟩ := hc.shape
  have HC := hid hc
  have HT := hid hT
  have HZ := hid hz
  clear hc hT hz
  go_enter Tryz.func79, Tryz.ntmps79
  go_wp2_with (first | (go_at_call 106; refine (itoa_any z HZ.out _ HT.out).mono ?_; rintro e w1 ⟨s, rfl, hs, hb1⟩; have HC1 := hid (HC.out.keeps hb1 (Nat.le_refl _))) | (go_at_call 53; refine (at_chain _ _ k d _ HC1.out).mono ?_; rintro e w2 ⟨e', rfl, hch, hb2⟩))
  go_ret
  exact ⟨_, rfl, hch, hb1.trans (hb2.mono hb1.size)⟩

/-- A plan for n stores, of whole numbers. -/
def Fits (m t l n : Int) : Prop := 1 ≤ t ∧ t ≤ n ∧ 1 ≤ l ∧ (m = 0 ∧ t + l ≤ n + 1 ∨ m = 1 ∧ l = 1)

theorem Fits.plan {m t l n : Int} (h : Fits m t l n) (h1 : 1 ≤ n) (h8 : n ≤ 8) : ∃ mode T L N : Nat, m = mode ∧ t = T ∧ l = L ∧ n = N ∧ IsPlan mode T L N := by
  obtain ⟨a1, a2, a3, a4⟩ := h
  refine ⟨m.toNat, t.toNat, l.toNat, n.toNat, by omega, by omega, by omega, by omega, by omega, by omega, by omega, by omega, by omega, by omega⟩

set_option maxRecDepth 100000 in
set_option maxHeartbeats 1000000 in
theorem fits_bad (m t l n : Int) (w : World) (hm : I64 m) (ht : I64 t) (hl : I64 l) (h1 : 1 ≤ n) (h8 : n ≤ 8) (h : ¬ Fits m t l n) :
    Calls Tryz.prog 170 #[.agg #[.int .i64 m, .int .i64 t, .int .i64 l], .int .i64 n] w fun e w' => e = .returned (.bool false) ∧ Below w.heap.size w w' := by
  obtain ⟨hm1, hm2⟩ := hm
  obtain ⟨ht1, ht2⟩ := ht
  obtain ⟨hl1, hl2⟩ := hl
  have hh : t < 1 ∨ n < t ∨ (1 ≤ t ∧ t ≤ n) ∧ (m = 0 ∧ (l < 1 ∨ 1 ≤ l ∧ n - t < l - 1) ∨ m = 1 ∧ l ≠ 1 ∨ m ≠ 0 ∧ m ≠ 1) := by
    unfold Fits at h; omega
  clear h
  have hb := (Below.refl w.heap.size w).alloc (Nat.le_refl _) (.cells #[.int .i64 m, .int .i64 t, .int .i64 l] 29)
  rcases hh with h | h | ⟨⟨h2, h3⟩, ⟨rfl, h | ⟨h, h4⟩⟩ | ⟨rfl, h⟩ | ⟨h, h4⟩⟩
  · go_enter Tryz.func170, Tryz.ntmps170
    go_wp2
    go_ret
    exact ⟨rfl, hb⟩
  · have h2 : 1 ≤ t := by omega
    go_enter Tryz.func170, Tryz.ntmps170
    go_wp2
    go_ret
    exact ⟨rfl, hb⟩
  · go_enter Tryz.func170, Tryz.ntmps170
    go_wp2
    go_ret
    exact ⟨rfl, hb⟩
  · go_enter Tryz.func170, Tryz.ntmps170
    go_wp2
    go_ret
    exact ⟨congrArg (fun b => Ending.returned (.bool b)) (decide_eq_false (by omega)), hb⟩
  · go_enter Tryz.func170, Tryz.ntmps170
    go_wp2
    go_ret
    exact ⟨congrArg (fun b => Ending.returned (.bool b)) (beq_eq_false_iff_ne.2 h), hb⟩
  · go_enter Tryz.func170, Tryz.ntmps170
    go_wp2
    go_ret
    exact ⟨rfl, hb⟩

set_option maxRecDepth 100000 in
set_option maxHeartbeats 1000000 in
theorem checkPlan_bad (m t l n : Int) (w : World) (hm : I64 m) (ht : I64 t) (hl : I64 l) (hn : I64 n) (h : ¬ (1 ≤ n ∧ n ≤ 8 ∧ Fits m t l n)) (hT : Tab w) :
    Calls Tryz.prog 138 #[.agg #[.int .i64 m, .int .i64 t, .int .i64 l], .int .i64 n] w fun e w' => ∃ ev, e = .returned ev ∧ Chain w' 3 1 ev ∧ Below w.heap.size w w' := by
  have hba := (Below.refl w.heap.size w).alloc (Nat.le_refl _) (.cells #[.int .i64 m, .int .i64 t, .int .i64 l] 29)
  have HT := hid (hT.keeps hba (Nat.le_refl _))
  have HN := hid hn
  have HM := hid hm
  have HTT := hid ht
  have HL := hid hl
  obtain ⟨hn1, hn2⟩ := hn
  clear hm ht hl hT
  rcases show n < 1 ∨ 8 < n ∨ 1 ≤ n ∧ n ≤ 8 by omega with h1 | h1 | ⟨h1, h2⟩
  · clear h
    go_enter Tryz.func138, Tryz.ntmps138
    go_wp2_with (go_at_call 77; refine (atCount_any n _ _ 3 0 _ HN.out (by decide) HT.out .hit).mono ?_; rintro e w2 ⟨e', rfl, hch, hb2⟩)
    go_ret
    exact ⟨_, rfl, hch, hba.trans (hb2.mono (by simp))⟩
  · clear h
    have h2 : ¬ n < 1 := by omega
    go_enter Tryz.func138, Tryz.ntmps138
    go_wp2_with (go_at_call 77; refine (atCount_any n _ _ 3 0 _ HN.out (by decide) HT.out .hit).mono ?_; rintro e w2 ⟨e', rfl, hch, hb2⟩)
    go_ret
    exact ⟨_, rfl, hch, hba.trans (hb2.mono (by simp))⟩
  · have HF := hid (show ¬ Fits m t l n from fun hf => h ⟨h1, h2, hf⟩)
    clear h
    go_enter Tryz.func138, Tryz.ntmps138
    go_wp2_with fail
    refine (fits_bad m t l n _ HM.out HTT.out HL.out h1 h2 HF.out).mono ?_
    rintro e w1 ⟨rfl, hb1⟩
    have hz1 : w.heap.size < w1.heap.size := by have := hb1.size; simp at this; omega
    have p0 : w1.cell? ⟨w.heap.size, 0, none⟩ = some (.int .i64 m) := (hb1.cell (by simp)).trans (by simp)
    have p1 : w1.cell? ⟨w.heap.size, 1, none⟩ = some (.int .i64 t) := (hb1.cell (by simp)).trans (by simp)
    have p2 : w1.cell? ⟨w.heap.size, 2, none⟩ = some (.int .i64 l) := (hb1.cell (by simp)).trans (by simp)
    have hb01 : Below w.heap.size w w1 := hba.trans (hb1.mono (by simp))
    have HT1 := hid (HT.out.keeps hb1 (Nat.le_refl _))
    clear hb1
    go_wp2_with fail
    go_region_held3 (fun w' => w'.cell? ⟨w.heap.size, 0, none⟩ = some (.int .i64 m) ∧ w'.cell? ⟨w.heap.size, 1, none⟩ = some (.int .i64 t) ∧ w'.cell? ⟨w.heap.size, 2, none⟩ = some (.int .i64 l)) (first | exact ⟨z0, z1, z2⟩ | exact ⟨y0, y1, y2⟩ | exact ⟨x0, x1, x2⟩ | exact ⟨p0, p1, p2⟩ | go_keep)
      (first
        | (go_at_call_of 106 (Value.int .i64 m); refine (itoa_any m HM.out _ (by exact HT1.out.keeps (Below.refl _ _).drew (Nat.le_refl _))).mono ?_; rintro e w2 ⟨s2, rfl, hs2, hb2⟩; have qa : ¬ 9223372036854775807 < 5 + s2.size := (by omega); have qb : ¬ 9223372036854775807 < 5 + s2.size + 4 := (by omega); have hb12 : Below w1.heap.size w1 w2 := ((Below.refl _ _).drew).trans hb2; have hz2 := hb12.size; have x0 : w2.cell? ⟨w.heap.size, 0, none⟩ = some (.int .i64 m) := (hb12.cell (by exact hz1)).trans p0; have x1 : w2.cell? ⟨w.heap.size, 1, none⟩ = some (.int .i64 t) := (hb12.cell (by exact hz1)).trans p1; have x2 : w2.cell? ⟨w.heap.size, 2, none⟩ = some (.int .i64 l) := (hb12.cell (by exact hz1)).trans p2)
        | (go_at_call_of 106 (Value.int .i64 t); refine (itoa_any t HTT.out _ (by exact HT1.out.keeps hb12 (Nat.le_refl _))).mono ?_; rintro e w3 ⟨s3, rfl, hs3, hb3⟩; have qc : ¬ 9223372036854775807 < 5 + s2.size + 4 + s3.size := (by omega); have qd : ¬ 9223372036854775807 < 5 + s2.size + 4 + s3.size + 4 := (by omega); have hb13 : Below w1.heap.size w1 w3 := hb12.trans (hb3.mono hz2); have hz3 := hb13.size; have y0 : w3.cell? ⟨w.heap.size, 0, none⟩ = some (.int .i64 m) := (hb13.cell (by exact hz1)).trans p0; have y1 : w3.cell? ⟨w.heap.size, 1, none⟩ = some (.int .i64 t) := (hb13.cell (by exact hz1)).trans p1; have y2 : w3.cell? ⟨w.heap.size, 2, none⟩ = some (.int .i64 l) := (hb13.cell (by exact hz1)).trans p2)
        | (go_at_call_of 106 (Value.int .i64 l); refine (itoa_any l HL.out _ (by exact HT1.out.keeps hb13 (Nat.le_refl _))).mono ?_; rintro e w4 ⟨s4, rfl, hs4, hb4⟩; have qe : ¬ 9223372036854775807 < 5 + s2.size + 4 + s3.size + 4 + s4.size := (by omega); have hb14 : Below w1.heap.size w1 w4 := hb13.trans (hb4.mono hz3); have hz4 := hb14.size; have z0 : w4.cell? ⟨w.heap.size, 0, none⟩ = some (.int .i64 m) := (hb14.cell (by exact hz1)).trans p0; have z1 : w4.cell? ⟨w.heap.size, 1, none⟩ = some (.int .i64 t) := (hb14.cell (by exact hz1)).trans p1; have z2 : w4.cell? ⟨w.heap.size, 2, none⟩ = some (.int .i64 l) := (hb14.cell (by exact hz1)).trans p2))
    go_wp2_with (go_at_call 53; refine (at_chain _ _ 3 0 _ .hit).mono ?_; rintro e w5 ⟨e', rfl, hch, hb5⟩)
    go_ret
    exact ⟨_, rfl, hch, (hb01.trans (hb14.mono (by omega))).trans (hb5.mono (by omega))⟩
end Go.Proofs.YtcegdgmbponapabGreatDoor
