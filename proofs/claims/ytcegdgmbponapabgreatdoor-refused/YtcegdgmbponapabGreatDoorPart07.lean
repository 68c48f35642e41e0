/-
  What the rows' condition gives the walks: the table of powers of ten, and the variable errors.errorType.
  Names in their order; records ar cells.
  A store's records: where a name is.
-/
import Derived.Test.YtcegdgmbponapabGreatDoorPart05
import Derived.Test.YtcegdgmbponapabGreatDoorPart06
import Derived.Lib.LaidTab
import Derived.Stop.LaidErr
import Derived.Test.YtcegdgmbponapabGreatDoorPart00
import Derived.Lib.Bytealg
import Derived.Test.YtcegdgmbponapabGreatDoorCompare
import Derived.BigQuiet
namespace Go.Proofs.YtcegdgmbponapabGreatDoor
open Go.ChangeShapes Go.WideShapes Go.ChangeAt Go.RowKit Go.Joins

theorem Tryz.etL : Tryz.prog.globalNamed "errors.errorType" = some 0 := by kernel_rfl
theorem Tryz.rtL : (Tryz.prog.cutTypes.find? (·.1 == "internal/reflectlite.rtype")).map (·.2) = some 199 := by kernel_rfl
theorem Tryz.oneRowL : ((List.range Tryz.prog.types.size).filter fun t => Tryz.prog.rowNamed t [101, 114, 114, 111, 114]) = [76] := by kernel_rfl
theorem Tryz.pow10 : Tryz.prog.globalNamed "internal/strconv.uint64pow10" = some 2 := by kernel_rfl

theorem laid_parts {W : World} (h : laidMetH Tryz.prog [("math/bits.deBruijn32tab", Rows.laid_math_bits_deBruijn32tab), ("math/bits.deBruijn64tab", Rows.laid_math_bits_deBruijn64tab), ("internal/strconv.uint64pow10", Rows.laid_internal_strconv_uint64pow10), ("errors.errorType", Rows.laid_errors_errorType)] W) : laidMet Tryz.prog [("math/bits.deBruijn32tab", Rows.laid_math_bits_deBruijn32tab), ("math/bits.deBruijn64tab", Rows.laid_math_bits_deBruijn64tab), ("internal/strconv.uint64pow10", Rows.laid_internal_strconv_uint64pow10)] W ∧ handlesMet Tryz.prog [("errors.errorType", Rows.laid_errors_errorType)] W := h

theorem errType_laid {W : World} (h : laidMetH Tryz.prog [("math/bits.deBruijn32tab", Rows.laid_math_bits_deBruijn32tab), ("math/bits.deBruijn64tab", Rows.laid_math_bits_deBruijn64tab), ("internal/strconv.uint64pow10", Rows.laid_internal_strconv_uint64pow10), ("errors.errorType", Rows.laid_errors_errorType)] W) : ErrType W := by
  obtain ⟨name, u, ty, e1, e2, e3, e4, e5⟩ := (laid_parts h).2 _ (List.mem_singleton.2 rfl)
  have en : name = [101, 114, 114, 111, 114] := (Option.some.inj e1).symm
  subst en
  obtain rfl := Option.some.inj (Tryz.rtL.symm.trans e2)
  have hm : ty ∈ (List.range Tryz.prog.types.size).filter fun t => Tryz.prog.rowNamed t [101, 114, 114, 111, 114] := List.mem_filter.2 ⟨List.mem_range.2 e3, e4⟩
  rw [Tryz.oneRowL] at hm
  obtain rfl := List.mem_singleton.1 hm
  have hh : typeHandle Tryz.prog 76 = .pointer (some ⟨5, 76, none⟩) := by kernel_rfl
  rw [hh] at e5
  have hc : W.cell? ⟨0, 0, none⟩ = some (.iface 199 (.agg #[.pointer (some ⟨5, 76, none⟩)])) := by simpa using World.var?_cell Tryz.etL e5 0
  exact ⟨hc, World.block_lt_of_cell? W _ hc⟩

theorem tab_laid {W : World} (h : laidMetH Tryz.prog [("math/bits.deBruijn32tab", Rows.laid_math_bits_deBruijn32tab), ("math/bits.deBruijn64tab", Rows.laid_math_bits_deBruijn64tab), ("internal/strconv.uint64pow10", Rows.laid_internal_strconv_uint64pow10), ("errors.errorType", Rows.laid_errors_errorType)] W) : Tab W := by
  have h1 : Lib.TabIs Tryz.prog W "internal/strconv.uint64pow10" .u64 Lib.pow10Tab :=
    Lib.tabIs_of_head Tryz.pow10 (t := 302) (e := 22) (n := 20) (by kernel_rfl) Tryz.underlying302 Tryz.underlying22 (by kernel_rfl) (by kernel_rfl) (laidMet.tail (laidMet.tail (laid_parts h).1))
  exact ⟨h1, World.block_lt_of_cell? W _ (h1.cell Tryz.pow10 0 (by simp [Lib.pow10Tab]))⟩
end Go.Proofs.YtcegdgmbponapabGreatDoor

namespace Go.Proofs.YtcegdgmbponapabGreatDoor
open Go.RowKit

abbrev cmpB (a b : ByteArray) : Int := Lib.compareBytes a.data.toList b.data.toList

theorem cmpL_zero : ∀ a b : List UInt8, Lib.compareBytes a b = 0 ↔ a = b
  | [], [] => by simp [Lib.compareBytes]
  | [], _ :: _ => by simp [Lib.compareBytes]
  | _ :: _, [] => by simp [Lib.compareBytes]
  | a :: ar, b :: br => by
    simp only [Lib.compareBytes, List.cons.injEq]
    have ih := cmpL_zero ar br
    split
    · rename_i h
      refine ⟨fun e => by simp at e, fun e => ?_⟩
      rw [e.1] at h
      exact absurd h (UInt8.lt_irrefl _)
    · split
      · rename_i h1 h2
        refine ⟨fun e => by simp at e, fun e => ?_⟩
        rw [e.1] at h2
        exact absurd h2 (UInt8.lt_irrefl _)
      · rename_i h1 h2
        have : a = b := UInt8.le_antisymm (UInt8.not_lt.1 h2) (UInt8.not_lt.1 h1)
        rw [ih]
        exact ⟨fun e => ⟨this, e⟩, fun e => e.2⟩

theorem cmpL_trans : ∀ a b c : List UInt8, Lib.compareBytes a b < 0 → Lib.compareBytes b c < 0 → Lib.compareBytes a c < 0
  | [], [], c, h, _ => by simp [Lib.compareBytes] at h
  | [], _ :: _, [], _, h => by simp [Lib.compareBytes] at h
  | [], _ :: _, _ :: _, _, _ => by simp [Lib.compareBytes]
  | _ :: _, [], _, h, _ => by simp [Lib.compareBytes] at h
  | _ :: _, _ :: _, [], _, h => by simp [Lib.compareBytes] at h
  | a :: ar, b :: br, c :: cs, h1, h2 => by
    simp only [Lib.compareBytes] at h1 h2 ⊢
    have ih := cmpL_trans ar br cs
    split at h1
    · rename_i hab
      split at h2
      · rename_i hbc
        rw [if_pos (UInt8.lt_trans hab hbc)]; decide
      · rename_i hbc
        split at h2
        · simp at h2
        · rename_i hcb
          have : b = c := UInt8.le_antisymm (UInt8.not_lt.1 hcb) (UInt8.not_lt.1 hbc)
          rw [if_pos (this ▸ hab)]; decide
    · rename_i hab
      split at h1
      · simp at h1
      · rename_i hba
        have e : a = b := UInt8.le_antisymm (UInt8.not_lt.1 hba) (UInt8.not_lt.1 hab)
        subst e
        split at h2
        · rename_i hbc
          rw [if_pos hbc]; decide
        · rename_i hbc
          split at h2
          · simp at h2
          · rename_i hcb
            rw [if_neg hbc, if_neg hcb]
            exact ih h1 h2

theorem cmpL_flip : ∀ a b : List UInt8, Lib.compareBytes a b = - Lib.compareBytes b a
  | [], [] => by simp [Lib.compareBytes]
  | [], _ :: _ => by simp [Lib.compareBytes]
  | _ :: _, [] => by simp [Lib.compareBytes]
  | a :: ar, b :: br => by
    simp only [Lib.compareBytes]
    have ih := cmpL_flip ar br
    by_cases h1 : a < b
    · have h2 : ¬ b < a := fun h => UInt8.lt_irrefl _ (UInt8.lt_trans h1 h)
      simp [h1, h2]
    · by_cases h2 : b < a
      · simp [h1, h2]
      · simp [h1, h2, ih]

theorem ba_ext {a b : ByteArray} (h : a.data.toList = b.data.toList) : a = b := by
  cases a; cases b; simp at h; rw [h]

theorem cmpB_zero {a b : ByteArray} : cmpB a b = 0 ↔ a = b := by
  unfold cmpB
  rw [cmpL_zero]
  exact ⟨ba_ext, fun h => by rw [h]⟩
theorem cmpB_trans {a b c : ByteArray} (h1 : cmpB a b < 0) (h2 : cmpB b c < 0) : cmpB a c < 0 := cmpL_trans _ _ _ h1 h2
theorem cmpB_flip (a b : ByteArray) : cmpB a b = - cmpB b a := cmpL_flip _ _

/-- What a store has of an object: what is known of it, and where its shard lies. -/
structure RecV where
  name : ByteArray
  mode : Nat
  t : Nat
  l : Nat
  size : Nat
  epoch : Nat
  sa : Option Addr
  sn : Nat
  sc : Nat
  na : Option Addr
  nn : Nat
  nc : Nat

instance : Inhabited RecV := ⟨⟨ByteArray.empty, 0, 0, 0, 0, 0, none, 0, 0, none, 0, 0⟩⟩

def RecV.cells (r : RecV) : List Value := [.string r.name, .int .i64 r.mode, .int .i64 r.t, .int .i64 r.l, .int .i64 r.size, .int .i64 r.epoch, .slice r.sa r.sn r.sc, .slice r.na r.nn r.nc]
def RecV.val (r : RecV) : Value := .agg #[.string r.name, .int .i64 r.mode, .int .i64 r.t, .int .i64 r.l, .int .i64 r.size, .int .i64 r.epoch, .slice r.sa r.sn r.sc, .slice r.na r.nn r.nc]
def recs (rs : List RecV) : List Value := rs.flatMap RecV.cells

theorem recs_length (rs : List RecV) : (recs rs).length = rs.length * 8 := by
  induction rs with
  | nil => rfl
  | cons r rs ih => simp only [recs, List.flatMap_cons, List.length_append] at ih ⊢; rw [ih]; simp [RecV.cells]; omega

theorem recs_at (rs : List RecV) (k j : Nat) (hk : k < rs.length) (hj : j < 8) : (recs rs)[k * 8 + j]? = (rs[k]).cells[j]? := by
  induction rs generalizing k with
  | nil => simp at hk
  | cons r rs ih =>
    cases k with
    | zero =>
      simp only [recs, List.flatMap_cons, List.getElem_cons_zero, Nat.zero_mul, Nat.zero_add]
      rw [List.getElem?_append_left (by simp [RecV.cells]; exact hj)]
    | succ k =>
      have := ih k (by simpa using hk)
      simp only [recs, List.flatMap_cons, List.getElem_cons_succ] at this ⊢
      rw [← this, List.getElem?_append_right (by simp [RecV.cells]; omega), show (k + 1) * 8 + j - r.cells.length = k * 8 + j by simp [RecV.cells]; omega]

/-- The names are in their order. -/
def Sorted (rs : List RecV) : Prop := ∀ i j, i < j → j < rs.length → cmpB (rs[i]!).name (rs[j]!).name < 0

theorem Sorted.mono {rs : List RecV} (h : Sorted rs) (nm : ByteArray) (i j : Nat) (hij : i ≤ j) (hj : j < rs.length) (hc : cmpB (rs[j]!).name nm < 0) : cmpB (rs[i]!).name nm < 0 := by
  rcases Nat.eq_or_lt_of_le hij with rfl | hlt
  · exact hc
  · exact cmpB_trans (h i j hlt hj) hc

/-- How many names are ahead of this one. -/
def posOf (rs : List RecV) (nm : ByteArray) : Nat := rs.countP fun r => decide (cmpB r.name nm < 0)

theorem posOf_eq (rs : List RecV) (nm : ByteArray) : ∀ (i : Nat), i ≤ rs.length → (∀ k, k < i → cmpB (rs[k]!).name nm < 0) → (∀ k, i ≤ k → k < rs.length → ¬ cmpB (rs[k]!).name nm < 0) → posOf rs nm = i := by
  induction rs with
  | nil => intro i hi _ _; simp at hi; simp [posOf, hi]
  | cons r rs ih =>
    intro i hi h1 h2
    cases i with
    | zero =>
      unfold posOf
      rw [List.countP_eq_zero]
      intro x hx
      obtain ⟨k, hk, rfl⟩ := List.getElem_of_mem hx
      have := h2 k (Nat.zero_le _) hk
      rw [getElem!_pos (r :: rs) k hk] at this
      simpa using this
    | succ i =>
      have ha : cmpB r.name nm < 0 := by simpa using h1 0 (Nat.succ_pos _)
      have := ih i (by simpa using hi) (fun k hk => by simpa using h1 (k + 1) (by omega)) (fun k h3 h4 => by simpa using h2 (k + 1) (by omega) (by simpa using h4))
      unfold posOf at this ⊢
      rw [List.countP_cons_of_pos (by simpa using ha), this]

theorem posOf_le (rs : List RecV) (nm : ByteArray) : posOf rs nm ≤ rs.length := List.countP_le_length ..

/-- Is there a record of that name? -/
def hasName (rs : List RecV) (nm : ByteArray) : Bool := decide (posOf rs nm < rs.length) && decide (cmpB (rs[posOf rs nm]!).name nm = 0)
end Go.Proofs.YtcegdgmbponapabGreatDoor

namespace Go.Proofs.YtcegdgmbponapabGreatDoor
open Go.RowKit
attribute [local go_sem ↓] Go.wp_at_zero Go.wp_at_succ

theorem Tryz.cellsRec : (Tryz.prog.info? 127).map (fun i => i.size) = some 8 := by kernel_rfl

set_option maxRecDepth 100000 in
theorem cmp_any (r : RecV) (nm : ByteArray) (w : World) :
    Calls Tryz.prog 136 #[.agg #[.string r.name, .int .i64 r.mode, .int .i64 r.t, .int .i64 r.l, .int .i64 r.size, .int .i64 r.epoch, .slice r.sa r.sn r.sc, .slice r.na r.nn r.nc], .string nm] w fun e w' => e = .returned (.int .i64 (cmpB r.name nm)) ∧ Below w.heap.size w w' := by
  obtain ⟨name, mode, t, l, size, epoch, sa, sn, sc, na, nn, nc⟩ := r
  have hba := (Below.refl w.heap.size w).alloc (Nat.le_refl _) (.cells #[.string name, .int .i64 mode, .int .i64 t, .int .i64 l, .int .i64 size, .int .i64 epoch, .slice sa sn sc, .slice na nn nc] 127)
  go_enter Tryz.func136, Tryz.ntmps136
  go_wp2_with (go_at_call 137; refine (Tryz.strings_Compare _ _ _).mono ?_; rintro e w1 ⟨rfl, rfl⟩)
  go_ret
  exact ⟨rfl, hba⟩

/-- A list of records, as it lies. -/
theorem rec_at {w : World} {b o : Nat} {rs : List RecV} (h : Rd w (some ⟨b, o, none⟩) (recs rs)) (k : Nat) (hk : k < rs.length) : b < w.heap.size ∧
    w.cell? ⟨b, o + k * 8, none⟩ = some (.string (rs[k]!).name) ∧ w.cell? ⟨b, o + k * 8 + 1, none⟩ = some (.int .i64 (rs[k]!).mode) ∧ w.cell? ⟨b, o + k * 8 + 2, none⟩ = some (.int .i64 (rs[k]!).t) ∧ w.cell? ⟨b, o + k * 8 + 3, none⟩ = some (.int .i64 (rs[k]!).l) ∧
    w.cell? ⟨b, o + k * 8 + 4, none⟩ = some (.int .i64 (rs[k]!).size) ∧ w.cell? ⟨b, o + k * 8 + 5, none⟩ = some (.int .i64 (rs[k]!).epoch) ∧ w.cell? ⟨b, o + k * 8 + 6, none⟩ = some (.slice (rs[k]!).sa (rs[k]!).sn (rs[k]!).sc) ∧ w.cell? ⟨b, o + k * 8 + 7, none⟩ = some (.slice (rs[k]!).na (rs[k]!).nn (rs[k]!).nc) := by
  rw [getElem!_pos rs k hk]
  have key : ∀ j v, j < 8 → (rs[k]).cells[j]? = some v → b < w.heap.size ∧ w.cell? ⟨b, o + (k * 8 + j), none⟩ = some v := by
    intro j v hj hv
    obtain ⟨b', o', h1, h2, h3⟩ := h (k * 8 + j) v (by rw [recs_at rs k j hk hj]; exact hv)
    simp at h1
    obtain ⟨rfl, rfl⟩ := h1
    exact ⟨h2, h3⟩
  refine ⟨(key 0 _ (by decide) rfl).1, ?_, ?_, ?_, ?_, ?_, ?_, ?_, ?_⟩
  · exact (key 0 _ (by decide) rfl).2
  · exact (key 1 _ (by decide) rfl).2
  · exact (key 2 _ (by decide) rfl).2
  · exact (key 3 _ (by decide) rfl).2
  · exact (key 4 _ (by decide) rfl).2
  · exact (key 5 _ (by decide) rfl).2
  · exact (key 6 _ (by decide) rfl).2
  · exact (key 7 _ (by decide) rfl).2

theorem half_shr (lo hi : Nat) (h : lo + hi ≤ 1000) : IntKind.i64.wrap (IntKind.u64.wrap ((lo : Int) + (hi : Int)) / 2) = (((lo + hi) / 2 : Nat) : Int) := by
  rw [IntKind.wrap_u64, IntKind.wrap_i64]; omega

set_option maxRecDepth 100000 in
set_option maxHeartbeats 1000000 in
theorem search_any (a : Option Addr) (n c : Nat) (rs : List RecV) (nm : ByteArray) (w : World) (en : n = rs.length) (hr : Rd w a (recs rs)) (hn : n ≤ 100) (hs : Sorted rs) :
    Calls Tryz.prog 135 #[.slice a n c, .string nm, .func (.func 136) #[] #[]] w fun e w' => e = .returned (.tuple #[.int .i64 (posOf rs nm : Nat), .bool (hasName rs nm)]) ∧ Below w.heap.size w w' := by
  have EN := hid en
  have HS := hid hs
  have HR := hid hr
  clear en hs hr
  go_enter Tryz.func135, Tryz.ntmps135
  go_wp2
  go_loopw [9, 10] (fun u v wr => ∃ lo hi : Nat, u = .int .i64 lo ∧ v = .int .i64 hi ∧ lo ≤ hi ∧ hi ≤ n ∧ (∀ k, k < lo → cmpB (rs[k]!).name nm < 0) ∧ (∀ k, hi ≤ k → k < n → 0 ≤ cmpB (rs[k]!).name nm) ∧ Below w.heap.size w wr) (fun u v _ => (intOf v).toNat - (intOf u).toNat)
  case atStart => exact ⟨0, n, rfl, rfl, Nat.zero_le _, Nat.le_refl _, fun k hk => by omega, fun k h1 h2 => by omega, Below.refl _ _⟩
  case round =>
    obtain ⟨lo, hi, rfl, rfl, hlh, hhn, hbelow, habove, hbel⟩ := hrel
    have HBL := hid hbelow
    have HAB := hid habove
    clear hbelow habove
    by_cases hlt : lo < hi
    · obtain ⟨md, hmd⟩ : ∃ md, md = (lo + hi) / 2 := ⟨_, rfl⟩
      have hm1 : lo ≤ md := by omega
      have hm2 : md < hi := by omega
      have hlt' : (lo : Int) < (hi : Int) := by omega
      obtain ⟨b, o, rfl, hb, _⟩ := HR.out.pos (by rw [recs_length, ← EN.out]; omega)
      obtain ⟨_, k0, k1, k2, k3, k4, k5, k6, k7⟩ := rec_at (HR.out.below hbel (Nat.le_refl _)) md (by rw [← EN.out]; omega)
      have hhalf : ((lo : Int) + (hi : Int)) / 2 = (md : Int) := by omega
      have hmn : (md : Int) < (n : Int) := by omega
      have HMD := hid hmd
      clear hmd
      obtain ⟨r, hr⟩ : ∃ r, r = rs[md]! := ⟨_, rfl⟩
      rw [← hr] at k0 k1 k2 k3 k4 k5 k6 k7
      have HRR := hid hr
      clear hr
      have HC := hid (fun w' => cmp_any r nm w')
      by_cases hneg : cmpB r.name nm < 0
      · have HLT := hid hneg
        go_wp2_with fail
        refine (HC.out _).mono ?_
        rintro e w1 ⟨rfl, hb1⟩
        have hb01 := hbel.trans (hb1.mono hbel.size)
        go_wp2
        go_roundw
        case rel => exact ⟨md + 1, hi, by go_num, rfl, by omega, hhn, fun k hk => HS.out.mono nm k md (by omega) (by rw [← EN.out]; omega) (by rw [← HRR.out]; exact HLT.out), HAB.out, hb01⟩
        case measure => simp [intOf]; omega
      · have HLT := hid hneg
        go_wp2_with fail
        refine (HC.out _).mono ?_
        rintro e w1 ⟨rfl, hb1⟩
        have hb01 := hbel.trans (hb1.mono hbel.size)
        go_wp2
        go_roundw
        case rel => exact ⟨lo, md, rfl, rfl, hm1, by omega, HBL.out, fun k h1 h2 => Int.not_lt.1 fun h3 => Int.not_lt.2 HLT.out (by rw [HRR.out]; exact HS.out.mono nm md k h1 (by rw [← EN.out]; exact h2) h3), hb01⟩
        case measure => simp [intOf]; omega
    · have hlo : hi = lo := by omega
      subst hlo
      have HP := hid (posOf_eq rs nm hi (by rw [← EN.out]; exact hhn) HBL.out (fun k h1 h2 => Int.not_lt.2 (HAB.out k h1 (by rw [EN.out]; exact h2))))
      have HHN := hid (show hasName rs nm = (decide (hi < n) && decide (cmpB (rs[hi]!).name nm = 0)) by unfold hasName; rw [HP.out, EN.out])
      by_cases hin : hi < n
      · obtain ⟨b, o, rfl, hb, _⟩ := HR.out.pos (by rw [recs_length, ← EN.out]; omega)
        obtain ⟨_, k0, k1, k2, k3, k4, k5, k6, k7⟩ := rec_at (HR.out.below hbel (Nat.le_refl _)) hi (by rw [← EN.out]; omega)
        obtain ⟨r, hr⟩ : ∃ r, r = rs[hi]! := ⟨_, rfl⟩
        rw [← hr] at k0 k1 k2 k3 k4 k5 k6 k7 HHN
        clear hr
        have hin' : (hi : Int) < (n : Int) := by omega
        have HIN := hid hin
        clear hin
        go_wp2_with fail
        refine (cmp_any r nm _).mono ?_
        rintro e w1 ⟨rfl, hb1⟩
        have hb01 := hbel.trans (hb1.mono hbel.size)
        go_wp2
        go_ret2
        rw [HP.out, HHN.out, decide_eq_true HIN.out]
        exact ⟨rfl, hb01⟩
      · have hin' : ¬ (hi : Int) < (n : Int) := by omega
        have HIN := hid hin
        clear hin
        go_wp2
        go_ret2
        rw [HP.out, HHN.out, decide_eq_false HIN.out]
        exact ⟨rfl, hbel⟩
end Go.Proofs.YtcegdgmbponapabGreatDoor
