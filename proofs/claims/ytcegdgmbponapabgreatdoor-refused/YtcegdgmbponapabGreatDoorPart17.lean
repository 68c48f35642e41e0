/-
  copy of elements of whatever size.
  Lists of objects: '==', slices.Equal, Clone, Compact; are they all the same?
  A row as the whole of its block: the elements, and what is behind them.
-/
import Derived.Test.YtcegdgmbponapabGreatDoorPart00
import Derived.Laws.IdiomCopy
import Derived.Test.YtcegdgmbponapabGreatDoorPart16
import Derived.Laws.StructEq
import Derived.Lib.SliceRun
import Derived.BigQuiet
import Derived.Test.YtcegdgmbponapabGreatDoorPart09
namespace Go.Proofs.YtcegdgmbponapabGreatDoor
open Go.RowKit

theorem run_copy_any {P : Program} (w : World) (dT sT ty elem : TypeId) (i : TypeInfo) (b o dLen dCap : Nat) (sp : Option Addr) (sLen sCap : Nat) (cs : List Value)
    (hu : P.underlying dT = some (.slice elem)) (hi : P.info? elem = some i) (hn : cs.length = Nat.min sLen dLen * i.size) (hsp : sp = none → cs = [])
    (hsrc : ∀ a, sp = some a → ∀ j v, cs[j]? = some v → w.cell? (a.add j) = some v) (hc : ∀ j, j < cs.length → (w.cell? ⟨b, o + j, none⟩).isSome = true) (hf : ∀ j, j < cs.length → w.frozen? ⟨b, o + j, none⟩ = false) (h1 : ∀ v ∈ cs, v.oneCell' = true) :
    (Builtin.copy_ #[dT, sT] ty #[.slice (some ⟨b, o, none⟩) dLen dCap, .slice sp sLen sCap]).run P w = .ok (goInt (Nat.min sLen dLen)) (w.setCells b o cs) := by
  have hst := run_storeCells_cells (P := P) b o cs 0 w (by simpa using hc) (by simpa using hf) h1
  cases sp with
  | none =>
    obtain rfl := hsp rfl
    simp [Builtin.copy_, run_underlying hu, Builtin.lenOf, Builtin.firstCells, sizeOf, typeInfo, hi, storeCells, World.setCells]
  | some a =>
    have hl := run_firstCells_some (P := P) w i.size (Nat.min sLen dLen) a sLen sCap cs hn (hsrc a rfl)
    simp only [Nat.add_zero] at hst
    simp [Builtin.copy_, run_underlying hu, Builtin.lenOf, sizeOf, typeInfo, hi, hl, hst]

end Go.Proofs.YtcegdgmbponapabGreatDoor

namespace Go.Proofs.YtcegdgmbponapabGreatDoor
open Go.RowKit
attribute [local go_sem ↓] Go.wp_at_zero Go.wp_at_succ

/-- What is known of an object. -/
structure Ob where
  name : ByteArray
  mode : Nat
  t : Nat
  l : Nat
  size : Nat
  epoch : Nat
  deriving DecidableEq

instance : Inhabited Ob := ⟨⟨ByteArray.empty, 0, 0, 0, 0, 0⟩⟩
def Ob.cells (r : Ob) : List Value := [.string r.name, .int .i64 r.mode, .int .i64 r.t, .int .i64 r.l, .int .i64 r.size, .int .i64 r.epoch]
def Ob.val (r : Ob) : Value := .agg #[.string r.name, .int .i64 r.mode, .int .i64 r.t, .int .i64 r.l, .int .i64 r.size, .int .i64 r.epoch]
def obs (l : List Ob) : List Value := l.flatMap Ob.cells
def RecV.ob (r : RecV) : Ob := ⟨r.name, r.mode, r.t, r.l, r.size, r.epoch⟩

theorem objs_obs (rs : List RecV) : objs rs = obs (rs.map RecV.ob) := by
  unfold objs obs
  rw [List.flatMap_map]
  rfl

theorem obs_length (rs : List Ob) : (obs rs).length = rs.length * 6 := by
  induction rs with
  | nil => rfl
  | cons r rs ih => simp only [obs, List.flatMap_cons, List.length_append] at ih ⊢; rw [ih]; simp [Ob.cells]; omega

theorem obs_cell (rs : List Ob) (k j : Nat) (hk : k < rs.length) (hj : j < 6) : (obs rs)[k * 6 + j]? = (rs[k]).cells[j]? := by
  induction rs generalizing k with
  | nil => simp at hk
  | cons r rs ih =>
    cases k with
    | zero =>
      simp only [obs, List.flatMap_cons, List.getElem_cons_zero, Nat.zero_mul, Nat.zero_add]
      rw [List.getElem?_append_left (by simp [Ob.cells]; exact hj)]
    | succ k =>
      have := ih k (by simpa using hk)
      simp only [obs, List.flatMap_cons, List.getElem_cons_succ] at this ⊢
      rw [← this, List.getElem?_append_right (by simp [Ob.cells]; omega), show (k + 1) * 6 + j - r.cells.length = k * 6 + j by simp [Ob.cells]; omega]

theorem obs_one_cell (rs : List Ob) (u : Value) (h : u ∈ obs rs) : u.oneCell' = true := by
  simp only [obs, List.mem_flatMap] at h
  obtain ⟨r, _, hr⟩ := h
  simp [Ob.cells] at hr
  rcases hr with rfl | rfl | rfl | rfl | rfl | rfl <;> rfl

theorem obs_append (a b : List Ob) : obs (a ++ b) = obs a ++ obs b := by simp [obs]

/-- An object of a list, as it lies. -/
theorem ob_at {w : World} {b o : Nat} {rs : List Ob} (h : Rd w (some ⟨b, o, none⟩) (obs rs)) (k : Nat) (hk : k < rs.length) : b < w.heap.size ∧
    w.cell? ⟨b, o + k * 6, none⟩ = some (.string (rs[k]!).name) ∧ w.cell? ⟨b, o + k * 6 + 1, none⟩ = some (.int .i64 (rs[k]!).mode) ∧ w.cell? ⟨b, o + k * 6 + 2, none⟩ = some (.int .i64 (rs[k]!).t) ∧ w.cell? ⟨b, o + k * 6 + 3, none⟩ = some (.int .i64 (rs[k]!).l) ∧
    w.cell? ⟨b, o + k * 6 + 4, none⟩ = some (.int .i64 (rs[k]!).size) ∧ w.cell? ⟨b, o + k * 6 + 5, none⟩ = some (.int .i64 (rs[k]!).epoch) := by
  rw [getElem!_pos rs k hk]
  have key : ∀ j v, j < 6 → (rs[k]).cells[j]? = some v → b < w.heap.size ∧ w.cell? ⟨b, o + (k * 6 + j), none⟩ = some v := by
    intro j v hj hv
    obtain ⟨b', o', h1, h2, h3⟩ := h (k * 6 + j) v (by rw [obs_cell rs k j hk hj]; exact hv)
    simp at h1
    obtain ⟨rfl, rfl⟩ := h1
    exact ⟨h2, h3⟩
  refine ⟨(key 0 _ (by decide) rfl).1, ?_, ?_, ?_, ?_, ?_, ?_⟩
  · exact (key 0 _ (by decide) rfl).2
  · exact (key 1 _ (by decide) rfl).2
  · exact (key 2 _ (by decide) rfl).2
  · exact (key 3 _ (by decide) rfl).2
  · exact (key 4 _ (by decide) rfl).2
  · exact (key 5 _ (by decide) rfl).2

theorem ob_eq_iff (x y : Ob) : (x = y) ↔ x.name = y.name ∧ x.mode = y.mode ∧ x.t = y.t ∧ x.l = y.l ∧ x.size = y.size ∧ x.epoch = y.epoch := by
  constructor
  · rintro rfl; exact ⟨rfl, rfl, rfl, rfl, rfl, rfl⟩
  · rintro ⟨h1, h2, h3, h4, h5, h6⟩
    obtain ⟨a1, a2, a3, a4, a5, a6⟩ := x
    obtain ⟨b1, b2, b3, b4, b5, b6⟩ := y
    simp only at h1 h2 h3 h4 h5 h6
    rw [h1, h2, h3, h4, h5, h6]

theorem bytes_beq (a b : ByteArray) : (a.toList == b.toList) = decide (a = b) := by
  rw [ByteArray.toList_eq, ByteArray.toList_eq]
  by_cases h : a = b
  · subst h; simp
  · have : ¬ a.data.toList = b.data.toList := fun e => h (ba_ext e)
    rw [decide_eq_false h, beq_eq_false_iff_ne]
    exact this

set_option maxRecDepth 100000 in
theorem eqlOb (x y : Ob) (w : World) : (binOp .eql 65 (.agg #[.string x.name, .int .i64 x.mode, .int .i64 x.t, .int .i64 x.l, .int .i64 x.size, .int .i64 x.epoch]) (.agg #[.string y.name, .int .i64 y.mode, .int .i64 y.t, .int .i64 y.l, .int .i64 y.size, .int .i64 y.epoch])).run Tryz.prog w = .ok (.bool (decide (x = y))) w := by
  have u3 := Tryz.underlying3
  have u9 := Tryz.underlying9
  have uP := Tryz.underlying29
  have hS : Tryz.prog.underlying 65 = some (.struct (Tryz.prog.fieldsOf 65)) := by kernel_rfl
  have hp : Tryz.prog.stoodInHeld 65 = false := by kernel_rfl
  have hS2 : Tryz.prog.underlying 29 = some (.struct (Tryz.prog.fieldsOf 29)) := by kernel_rfl
  have hp2 : Tryz.prog.stoodInHeld 29 = false := by kernel_rfl
  rw [run_eql_struct, show (10000 : Nat) = 9999 + 1 from rfl, run_equalIn_agg w 9999 65 _ _ hS hp]
  simp only [Program.fieldsOf, Tryz.underlying65]
  go_simp
  have hn : (x.name.toList = y.name.toList) ↔ (x.name = y.name) := by rw [ByteArray.toList_eq, ByteArray.toList_eq]; exact ⟨ba_ext, fun h => by rw [h]⟩
  simp only [hn, Int.natCast_inj]
  by_cases h1 : x.name = y.name <;> by_cases h2 : x.mode = y.mode <;> by_cases h3 : x.t = y.t <;> by_cases h4 : x.l = y.l <;> by_cases h5 : x.size = y.size <;> by_cases h6 : x.epoch = y.epoch <;> simp [ob_eq_iff, h1, h2, h3, h4, h5, h6]

set_option maxRecDepth 100000 in
theorem neqOb (x y : Ob) (w : World) : (binOp .neq 65 (.agg #[.string x.name, .int .i64 x.mode, .int .i64 x.t, .int .i64 x.l, .int .i64 x.size, .int .i64 x.epoch]) (.agg #[.string y.name, .int .i64 y.mode, .int .i64 y.t, .int .i64 y.l, .int .i64 y.size, .int .i64 y.epoch])).run Tryz.prog w = .ok (.bool (!decide (x = y))) w := by
  have h := eqlOb x y w
  have e : ∀ a b, (binOp .neq 65 (.agg a) (.agg b)).run Tryz.prog w = ((binOp .eql 65 (.agg a) (.agg b)).run Tryz.prog w).andThen fun v w' => match v with | .bool t => .ok (.bool (!t)) w' | v => .ok v w' := by
    intro a b
    simp only [binOp, Sem.run_bind]
    generalize (Op.equal 65 (.agg a) (.agg b)).run Tryz.prog w = r
    cases r <;> rfl
  rw [e, h]
  rfl

attribute [local go_sem ↓] eqlOb neqOb

set_option maxRecDepth 100000 in
theorem cloneO (b : Addr) (n c : Nat) (rs : List Ob) (w : World) (hsp : b.spot = none) (en : n = rs.length) (hr : Rd w (some b) (obs rs)) (hn : n ≤ 10) :
    Calls Tryz.prog 179 #[.slice (some b) n c] w fun e w' => ∃ v, e = .returned v ∧ w'.ownsRow w.heap.size 65 6 v n (obs rs) ∧ Below w.heap.size w w' := by
  obtain ⟨i0, hi, hz0, hz1, hz2⟩ := info_parts Tryz.infoO
  have HL := hid (show (obs rs).length = n * 6 by rw [obs_length, en])
  have hba := (Below.refl w.heap.size w).alloc (Nat.le_refl _) (.cells #[] 65)
  have HR := hid (hr.below hba (Nat.le_refl _))
  have hq := Lib.run_eql_slice_nil (P := Tryz.prog) w 80 65 (some b) n c 0 0 Tryz.underlying80
  have HE := hid (show (w.alloc (.cells #[] 65)).ownsRow w.heap.size 65 6 (.slice (some ⟨w.heap.size, 0, none⟩) 0 0) 0 [] from ⟨rfl, .inr ⟨w.heap.size, 0, #[], rfl, Nat.le_refl _, alloc_at _ _, Nat.le_refl _, by unfold maxLen; omega, rfl, rfl⟩⟩)
  obtain ⟨bb, bo, _⟩ := b
  cases hsp
  clear en hr
  go_enter Tryz.func179, Tryz.ntmps179
  go_wp2_with (first | (at_builtin; refine wpList_append_own _ rfl (.tmp 5) (.tmp 6) 80 rfl w.heap.size 65 i0 _ 6 56 Tryz.underlying80 hi hz0 hz1 hz2 rfl (by decide) _ 0 [] rfl HE.out ⟨bb, bo, none⟩ n c (obs rs) rfl HL.out (fun j u hj => by obtain ⟨b', o', e1, _, e3⟩ := HR.out j u hj; cases e1; rw [add_at]; exact e3) (fun u hu => obs_one_cell rs u hu) (by unfold maxLen; omega) (by omega) (by simp) ?_; intro v2 w2 hown2 hgrow2 _; rw [Nat.zero_add, List.nil_append] at hown2; have hb2 : Below w.heap.size w w2 := hba.grown hgrow2 (by simp) (fun k hk => (HE.out.lt k hk).1); have HO2 := hid hown2; clear hown2 hgrow2) | fail)
  go_ret
  exact ⟨_, rfl, HO2.out, hb2⟩

/-- The first k of two lists are the same. -/
def sameUpTo (A B : List Ob) (k : Nat) : Prop := ∀ j, j < k → A[j]! = B[j]!

set_option maxRecDepth 100000 in
set_option maxHeartbeats 1000000 in
theorem equalO (a b : Option Addr) (n c c' : Nat) (A B : List Ob) (w : World) (ha : A.length = n) (hb : B.length = n) (hn : n ≤ 10) (hA : Rd w a (obs A)) (hB : Rd w b (obs B)) :
    Calls Tryz.prog 154 #[.slice a n c, .slice b n c'] w fun e w' => e = .returned (.bool (decide (A = B))) ∧ Below w.heap.size w w' := by
  have HA := hid hA
  have HB := hid hB
  have HL := hid (And.intro ha hb)
  clear hA hB ha hb
  go_enter Tryz.func154, Tryz.ntmps154
  go_wp2_with fail
  go_loopw [13] (fun u wr => ∃ (k : Nat), k ≤ n ∧ u = .int .i64 k ∧ sameUpTo A B k ∧ Below w.heap.size w wr) (fun u _ => n - (intOf u).toNat)
  case atStart => exact ⟨0, Nat.zero_le _, rfl, fun j hj => by omega, Below.refl _ _⟩
  case round =>
    obtain ⟨k, hk, rfl, hsame, hbr⟩ := hrel
    have HSM := hid hsame
    clear hsame
    by_cases hlt : k < n
    · obtain ⟨b1, o1, rfl, _, _⟩ := HA.out.pos (by rw [obs_length, HL.out.1]; omega)
      obtain ⟨b2, o2, rfl, _, _⟩ := HB.out.pos (by rw [obs_length, HL.out.2]; omega)
      obtain ⟨_, x0, x1, x2, x3, x4, x5⟩ := ob_at (HA.out.below hbr (Nat.le_refl _)) k (by rw [HL.out.1]; exact hlt)
      obtain ⟨_, y0, y1, y2, y3, y4, y5⟩ := ob_at (HB.out.below hbr (Nat.le_refl _)) k (by rw [HL.out.2]; exact hlt)
      have HXY := hid (show A[k]! = B[k]! → sameUpTo A B (k + 1) from fun h j hj => by
        rcases Nat.lt_or_ge j k with h' | h'
        · exact HSM.out j h'
        · rw [show j = k by omega]; exact h)
      have HNE := hid (show A[k]! ≠ B[k]! → A ≠ B from fun h e => h (by rw [e]))
      have hlt' : (k : Int) < (n : Int) := by omega
      generalize A[k]! = x at *
      generalize B[k]! = y at *
      by_cases hxy : x = y
      · have hd : decide (x = y) = true := decide_eq_true hxy
        have HX := hid hxy
        clear hxy
        go_wp2_with fail
        go_region
        go_wp2_with fail
        go_roundw
        case rel => exact ⟨k + 1, by omega, by go_num, HXY.out HX.out, hbr.drew⟩
        case measure => simp [intOf]; omega
      · have hd : decide (x = y) = false := decide_eq_false hxy
        have HX := hid hxy
        clear hxy
        go_wp2_with fail
        go_region
        go_wp2_with fail
        go_ret
        rw [decide_eq_false (HNE.out HX.out)]
        exact ⟨rfl, hbr.drew⟩
    · have hkn : k = n := by omega
      subst hkn
      go_wp2
      go_ret
      rw [decide_eq_true (show A = B from List.ext_getElem (by rw [HL.out.1, HL.out.2]) (fun j h1 h2 => by
        have := HSM.out j (by rw [← HL.out.1]; exact h1)
        rwa [getElem!_pos A j h1, getElem!_pos B j h2] at this))]
      exact ⟨rfl, hbr⟩

/-- Are there any, and are they all the same? -/
def allSame (L : List Ob) : Bool := decide (L ≠ [] ∧ ∀ j, j < L.length → L[j]! = L[0]!)

theorem obs_set6 (rs : List Ob) (p : Nat) (r : Ob) (hp : p < rs.length) : ((((((obs rs).set (p * 6) (.string r.name)).set (p * 6 + 1) (.int .i64 r.mode)).set (p * 6 + 2) (.int .i64 r.t)).set (p * 6 + 3) (.int .i64 r.l)).set (p * 6 + 4) (.int .i64 r.size)).set (p * 6 + 5) (.int .i64 r.epoch) = obs (rs.set p r) := by
  induction rs generalizing p with
  | nil => simp at hp
  | cons x rs ih =>
    cases p with
    | zero => simp [obs, Ob.cells]
    | succ p =>
      have := ih p (by simpa using hp)
      have hl : x.cells.length = 6 := rfl
      simp only [obs, List.flatMap_cons, List.set_cons_succ] at this ⊢
      rw [List.set_append_right _ _ (by rw [hl]; omega), List.set_append_right _ _ (by rw [hl]; omega), List.set_append_right _ _ (by rw [hl]; omega), List.set_append_right _ _ (by rw [hl]; omega), List.set_append_right _ _ (by rw [hl]; omega), List.set_append_right _ _ (by rw [hl]; omega), hl]
      rw [show (p + 1) * 6 - 6 = p * 6 by omega, show (p + 1) * 6 + 1 - 6 = p * 6 + 1 by omega, show (p + 1) * 6 + 2 - 6 = p * 6 + 2 by omega, show (p + 1) * 6 + 3 - 6 = p * 6 + 3 by omega, show (p + 1) * 6 + 4 - 6 = p * 6 + 4 by omega, show (p + 1) * 6 + 5 - 6 = p * 6 + 5 by omega, this]

/-- 'clear(s)', s a slice of n > 0 elements of whatever size. -/
theorem run_clear_any {P : Program} (w : World) (t e ty : TypeId) (z : Value) (ht : P.underlying t = some (.slice e)) (hv : ∀ w, (zeroValue e).run P w = .ok z w) (h1 : ∀ v ∈ z.cells, v.oneCell' = true) (b o n c : Nat) (hn : 0 < n)
    (hc : ∀ j, j < n * z.cells.size → (w.cell? ⟨b, o + j, none⟩).isSome = true) (hf : ∀ j, j < n * z.cells.size → w.frozen? ⟨b, o + j, none⟩ = false) :
    (Builtin.clear_ #[t] ty #[.slice (some ⟨b, o, none⟩) n c]).run P w = .ok (.tuple #[]) (w.setCells b o (Builtin.zeroCells z.cells n).toList) := by
  have hlen : (Builtin.zeroCells z.cells n).toList.length = n * z.cells.size := by simp [Builtin.zeroCells]
  have hst := run_storeCells_cells (P := P) b o (Builtin.zeroCells z.cells n).toList 0 w (by rw [hlen]; simpa using hc) (by rw [hlen]; simpa using hf) (by
    intro v hv'
    simp only [Builtin.zeroCells, Array.toList_map, List.mem_map, Array.toList_range, List.mem_range] at hv'
    obtain ⟨i, hi, rfl⟩ := hv'
    have h0 : 0 < z.cells.size := by
      rcases Nat.eq_zero_or_pos z.cells.size with h | h
      · rw [h] at hi; omega
      · exact h
    rw [getElem!_pos z.cells _ (Nat.mod_lt _ h0)]
    exact h1 _ (Array.getElem_mem _))
  simp only [Nat.add_zero] at hst
  obtain ⟨m, rfl⟩ : ∃ m, n = m + 1 := ⟨n - 1, by omega⟩
  simp [Builtin.clear_, run_underlying ht, hv, hst]

end Go.Proofs.YtcegdgmbponapabGreatDoor

namespace Go.Proofs.YtcegdgmbponapabGreatDoor
open Go.RowKit

theorem owns_split {w : World} {base g n c size : Nat} {e : TypeId} {L : List Value} (h : w.ownsRow base e size (.slice (some ⟨g, 0, none⟩) n c) n L) :
    ∃ tl, w.heap[g]? = some (.cells (L ++ tl).toArray e) ∧ L.length = n * size ∧ (L ++ tl).length = c * size ∧ n ≤ c ∧ c ≤ maxLen ∧ base ≤ g := by
  obtain ⟨h1, ⟨hx, _⟩ | ⟨g', cap, cur, hv, h3, h4, h5, h6, h7, h8⟩⟩ := h
  · cases hx
  · cases hv
    refine ⟨cur.toList.drop (n * size), ?_, h1, ?_, h5, h6, h3⟩
    · rw [← h8, List.take_append_drop]; exact h4
    · rw [← h8, List.take_append_drop, Array.length_toList]; exact h7

theorem owns_join {w : World} {base g n c size : Nat} {e : TypeId} {L tl : List Value} (h : w.heap[g]? = some (.cells (L ++ tl).toArray e)) (h1 : L.length = n * size) (h2 : (L ++ tl).length = c * size) (h3 : n ≤ c) (h4 : c ≤ maxLen) (h5 : base ≤ g) :
    w.ownsRow base e size (.slice (some ⟨g, 0, none⟩) n c) n L :=
  ⟨h1, .inr ⟨g, c, (L ++ tl).toArray, rfl, h5, h, h3, h4, by simpa using h2, by simp [← h1]⟩⟩

/-- Cells laid over a block's. -/
def over (L : List Value) (o : Nat) (vs : List Value) : List Value := L.take o ++ vs ++ L.drop (o + vs.length)

theorem over_length (L : List Value) (o : Nat) (vs : List Value) (h : o + vs.length ≤ L.length) : (over L o vs).length = L.length := by
  simp [over]; omega

theorem over_cons (L : List Value) (o : Nat) (v : Value) (vs : List Value) (h : o + (vs.length + 1) ≤ L.length) : over (L.set o v) (o + 1) vs = over L o (v :: vs) := by
  unfold over
  rw [List.take_set, List.drop_set_of_lt (by omega), List.length_cons, show o + 1 + vs.length = o + (vs.length + 1) by omega]
  congr 1
  rw [show L.take (o + 1) = L.take o ++ [L[o]'(by omega)] from (List.take_append_getElem (by omega)).symm, List.set_append_right _ _ (by simp; omega)]
  simp [Nat.min_eq_left (show o ≤ L.length by omega)]

theorem setCells_heap (g : Nat) (e : TypeId) : ∀ (vs : List Value) (o : Nat) (L : List Value) (w : World), w.heap[g]? = some (.cells L.toArray e) → o + vs.length ≤ L.length → (w.setCells g o vs).heap[g]? = some (.cells (over L o vs).toArray e)
  | [], o, L, w, h, _ => by simp [World.setCells, over, h]
  | v :: vs, o, L, w, h, hle => by
    rw [List.length_cons] at hle
    have h1 : (w.setCell ⟨g, o, none⟩ v).heap[g]? = some (.cells (L.set o v).toArray e) := by
      rw [cells_set v h]; simp
    rw [World.setCells, setCells_heap g e vs (o + 1) (L.set o v) _ h1 (by simp; omega), over_cons L o v vs hle]

theorem setCells_spared (own : Nat → Prop) (g : Nat) (hg : own g) : ∀ (vs : List Value) (o : Nat) (w : World), Spared own w (w.setCells g o vs)
  | [], _, _ => Spared.refl _ _
  | v :: vs, o, w => ((Spared.refl own w).setCell (p := ⟨g, o, none⟩) hg v).trans (setCells_spared own g hg vs (o + 1) _)

theorem setCells_size (g : Nat) (vs : List Value) (o : Nat) (w : World) : (w.setCells g o vs).heap.size = w.heap.size := by
  induction vs generalizing o w with
  | nil => rfl
  | cons v vs ih => rw [World.setCells, ih]; simp

/-- A cell of a whole block. -/
theorem block_cell {w : World} {g k : Nat} {L : List Value} {e : TypeId} (h : w.heap[g]? = some (.cells L.toArray e)) : w.cell? ⟨g, k, none⟩ = L[k]? := by rw [cells_at h]; simp
theorem block_some {w : World} {g k : Nat} {L : List Value} {e : TypeId} (h : w.heap[g]? = some (.cells L.toArray e)) (hk : k < L.length) : (w.cell? ⟨g, k, none⟩).isSome = true := by rw [block_cell h, List.getElem?_eq_getElem hk]; rfl

/-- Cells of a row behind the first m elements may be written: the first m stay. -/
theorem owns_tail {w : World} {base g n c size m : Nat} {e : TypeId} {L : List Value} (h : w.ownsRow base e size (.slice (some ⟨g, 0, none⟩) n c) n L) (hm : m ≤ n) (vs : List Value) (hvs : m * size + vs.length ≤ c * size) :
    (w.setCells g (m * size) vs).ownsRow base e size (.slice (some ⟨g, 0, none⟩) m c) m (L.take (m * size)) := by
  obtain ⟨tl, h1, h2, h3, h4, h5, h6⟩ := owns_split h
  have hms : m * size ≤ n * size := Nat.mul_le_mul_right size hm
  have hh := setCells_heap g e vs (m * size) (L ++ tl) w h1 (by rw [h3]; exact hvs)
  unfold over at hh
  rw [List.append_assoc, List.take_append_of_le_length (by omega)] at hh
  refine owns_join hh (by simp; omega) ?_ (by omega) h5 h6
  have := over_length (L ++ tl) (m * size) vs (by rw [h3]; exact hvs)
  unfold over at this
  rw [List.append_assoc, List.take_append_of_le_length (by omega)] at this
  rw [this, h3]
end Go.Proofs.YtcegdgmbponapabGreatDoor
