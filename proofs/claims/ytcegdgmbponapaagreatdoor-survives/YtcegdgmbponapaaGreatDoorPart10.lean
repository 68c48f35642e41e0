/-
  Where Split and Join refuse: the plan, the size, the tape.
  What the rows' condition gives the walks: the table of powers of ten, and the variable errors.errorType.
-/
import Derived.Test.YtcegdgmbponapaaGreatDoorItoa
import Derived.Test.YtcegdgmbponapaaGreatDoorPart09
import Derived.Test.YtcegdgmbponapaaGreatDoorPart05
import Derived.Lib.AppendIntMem
import Derived.Lib.ItoaLen
import Derived.BigQuiet
import Derived.Test.YtcegdgmbponapaaGreatDoorPart08
import Derived.Lib.LaidTab
import Derived.Stop.LaidErr
namespace Go.Proofs.YtcegdgmbponapaaGreatDoor
open Go.RowKit
attribute [local go_sem ↓] Go.wp_at_zero Go.wp_at_succ

/-- The table that the library's numerals are made by. -/
def Tab (w : World) : Prop := Lib.TabIs Tryz.prog w "internal/strconv.uint64pow10" .u64 Lib.pow10Tab ∧ 2 < w.heap.size

theorem Tab.keeps {B : Nat} {w w' : World} (h : Tab w) (hb : Below B w w') (hB : w.heap.size ≤ B) : Tab w' := by
  refine ⟨?_, Nat.lt_of_lt_of_le h.2 hb.size⟩
  have h1 := h.1
  have hg : Tryz.prog.globalNamed "internal/strconv.uint64pow10" = some 2 := by kernel_rfl
  unfold Lib.TabIs World.var? at h1 ⊢
  rw [hg] at h1 ⊢
  simp only [Option.bind_some] at h1 ⊢
  rw [hb.block _ (Nat.lt_of_lt_of_le h.2 hB)]
  exact h1

theorem itoa_any (z : Int) (hz : I64 z) (w : World) (hT : Tab w) :
    Calls Tryz.prog 174 #[.int .i64 z] w fun e w' => ∃ s : ByteArray, e = .returned (.string s) ∧ s.size ≤ 21 ∧ Below w.heap.size w w' := by
  refine (Tryz.strconv_Itoa z hz.1 hz.2 w hT.1).mono ?_
  rintro e w' ⟨rfl, k, os, rfl⟩
  exact ⟨_, rfl, by show (Lib.itoa z).toArray.size ≤ 21; simpa using Lib.itoa_length_le z hz.1 hz.2, Lib.below_grow _ w (Nat.le_refl _) k os⟩

set_option maxRecDepth 100000 in
theorem atCount_any (z : Int) (what : ByteArray) (e : Value) (k : Int) (d : Nat) (w : World) (hz : I64 z) (hw : what.size ≤ 100) (hT : Tab w) (hc : Chain w k d e) :
    Calls Tryz.prog 130 #[.int .i64 z, .string what, e] w fun ev w' => ∃ e', ev = .returned e' ∧ Chain w' k (d + 1) e' ∧ Below w.heap.size w w' := by
  obtain ⟨te, ve, rfl⟩ := hc.shape
  have HC := hid hc
  have HT := hid hT
  have HZ := hid hz
  clear hc hT hz
  go_enter Tryz.func130, Tryz.ntmps130
  go_wp2_with (first | (go_at_call 174; refine (itoa_any z HZ.out _ HT.out).mono ?_; rintro e w1 ⟨s, rfl, hs, hb1⟩; have HC1 := hid (HC.out.keeps hb1 (Nat.le_refl _))) | (go_at_call 78; refine (at_chain _ _ k d _ HC1.out).mono ?_; rintro e w2 ⟨e', rfl, hch, hb2⟩))
  go_ret
  exact ⟨_, rfl, hch, hb1.trans (hb2.mono hb1.size)⟩

set_option maxRecDepth 100000 in
theorem atStore_any (z : Int) (e : Value) (k : Int) (d : Nat) (w : World) (hz : I64 z) (hT : Tab w) (hc : Chain w k d e) :
    Calls Tryz.prog 136 #[.int .i64 z, e] w fun ev w' => ∃ e', ev = .returned e' ∧ Chain w' k (d + 1) e' ∧ Below w.heap.size w w' := by
  obtain ⟨te, ve, rfl⟩ := hc.shape
  have HC := hid hc
  have HT := hid hT
  have HZ := hid hz
  clear hc hT hz
  go_enter Tryz.func136, Tryz.ntmps136
  go_wp2_with (first | (go_at_call 174; refine (itoa_any z HZ.out _ HT.out).mono ?_; rintro e w1 ⟨s, rfl, hs, hb1⟩; have HC1 := hid (HC.out.keeps hb1 (Nat.le_refl _))) | (go_at_call 78; refine (at_chain _ _ k d _ HC1.out).mono ?_; rintro e w2 ⟨e', rfl, hch, hb2⟩))
  go_ret
  exact ⟨_, rfl, hch, hb1.trans (hb2.mono hb1.size)⟩

/-- A plan for n stores, of whole numbers. -/
def Fits (m t l n : Int) : Prop := 1 ≤ t ∧ t ≤ n ∧ 1 ≤ l ∧ (m = 0 ∧ t + l ≤ n + 1 ∨ m = 1 ∧ l = 1)

theorem Fits.plan {m t l n : Int} (h : Fits m t l n) (h1 : 1 ≤ n) (h8 : n ≤ 8) : ∃ mode T L N : Nat, m = mode ∧ t = T ∧ l = L ∧ n = N ∧ IsPlan mode T L N := by
  obtain ⟨a1, a2, a3, a4⟩ := h
  refine ⟨m.toNat, t.toNat, l.toNat, n.toNat, by omega, by omega, by omega, by omega, by omega, by omega, by omega, by omega, by omega, by omega⟩

set_option maxRecDepth 100000 in
set_option maxHeartbeats 1000000 in
theorem fits_bad (m t l n : Int) (w : World) (hm : I64 m) (ht : I64 t) (hl : I64 l) (h1 : 1 ≤ n) (h8 : n ≤ 8) (h : ¬ Fits m t l n) :
    Calls Tryz.prog 190 #[.agg #[.int .i64 m, .int .i64 t, .int .i64 l], .int .i64 n] w fun e w' => e = .returned (.bool false) ∧ Below w.heap.size w w' := by
  obtain ⟨hm1, hm2⟩ := hm
  obtain ⟨ht1, ht2⟩ := ht
  obtain ⟨hl1, hl2⟩ := hl
  have hh : t < 1 ∨ n < t ∨ (1 ≤ t ∧ t ≤ n) ∧ (m = 0 ∧ (l < 1 ∨ 1 ≤ l ∧ n - t < l - 1) ∨ m = 1 ∧ l ≠ 1 ∨ m ≠ 0 ∧ m ≠ 1) := by
    unfold Fits at h; omega
  clear h
  have hb := (Below.refl w.heap.size w).alloc (Nat.le_refl _) (.cells #[.int .i64 m, .int .i64 t, .int .i64 l] 29)
  rcases hh with h | h | ⟨⟨h2, h3⟩, ⟨rfl, h | ⟨h, h4⟩⟩ | ⟨rfl, h⟩ | ⟨h, h4⟩⟩
  · go_enter Tryz.func190, Tryz.ntmps190
    go_wp2
    go_ret
    exact ⟨rfl, hb⟩
  · have h2 : 1 ≤ t := by omega
    go_enter Tryz.func190, Tryz.ntmps190
    go_wp2
    go_ret
    exact ⟨rfl, hb⟩
  · go_enter Tryz.func190, Tryz.ntmps190
    go_wp2
    go_ret
    exact ⟨rfl, hb⟩
  · go_enter Tryz.func190, Tryz.ntmps190
    go_wp2
    go_ret
    exact ⟨congrArg (fun b => Ending.returned (.bool b)) (decide_eq_false (by omega)), hb⟩
  · go_enter Tryz.func190, Tryz.ntmps190
    go_wp2
    go_ret
    exact ⟨congrArg (fun b => Ending.returned (.bool b)) (beq_eq_false_iff_ne.2 h), hb⟩
  · go_enter Tryz.func190, Tryz.ntmps190
    go_wp2
    go_ret
    exact ⟨rfl, hb⟩

set_option maxRecDepth 100000 in
set_option maxHeartbeats 1000000 in
theorem checkPlan_bad (m t l n : Int) (w : World) (hm : I64 m) (ht : I64 t) (hl : I64 l) (hn : I64 n) (h : ¬ (1 ≤ n ∧ n ≤ 8 ∧ Fits m t l n)) (hT : Tab w) :
    Calls Tryz.prog 142 #[.agg #[.int .i64 m, .int .i64 t, .int .i64 l], .int .i64 n] w fun e w' => ∃ ev, e = .returned ev ∧ Chain w' 3 1 ev ∧ Below w.heap.size w w' := by
  have hba := (Below.refl w.heap.size w).alloc (Nat.le_refl _) (.cells #[.int .i64 m, .int .i64 t, .int .i64 l] 29)
  have HT := hid (hT.keeps hba (Nat.le_refl _))
  have HN := hid hn
  have HM := hid hm
  have HTT := hid ht
  have HL := hid hl
  obtain ⟨hn1, hn2⟩ := hn
  clear hm ht hl hT
  rcases show n < 1 ∨ 8 < n ∨ 1 ≤ n ∧ n ≤ 8 by omega with h1 | h1 | ⟨h1, h2⟩
  · clear h
    go_enter Tryz.func142, Tryz.ntmps142
    go_wp2_with (go_at_call 130; refine (atCount_any n _ _ 3 0 _ HN.out (by decide) HT.out .hit).mono ?_; rintro e w2 ⟨e', rfl, hch, hb2⟩)
    go_ret
    exact ⟨_, rfl, hch, hba.trans (hb2.mono (by simp))⟩
  · clear h
    have h2 : ¬ n < 1 := by omega
    go_enter Tryz.func142, Tryz.ntmps142
    go_wp2_with (go_at_call 130; refine (atCount_any n _ _ 3 0 _ HN.out (by decide) HT.out .hit).mono ?_; rintro e w2 ⟨e', rfl, hch, hb2⟩)
    go_ret
    exact ⟨_, rfl, hch, hba.trans (hb2.mono (by simp))⟩
  · have HF := hid (show ¬ Fits m t l n from fun hf => h ⟨h1, h2, hf⟩)
    clear h
    go_enter Tryz.func142, Tryz.ntmps142
    go_wp2_with fail
    refine (fits_bad m t l n _ HM.out HTT.out HL.out h1 h2 HF.out).mono ?_
    rintro e w1 ⟨rfl, hb1⟩
    have hz1 : w.heap.size < w1.heap.size := by have := hb1.size; simp at this; omega
    have p0 : w1.cell? ⟨w.heap.size, 0, none⟩ = some (.int .i64 m) := (hb1.cell (by simp)).trans (by simp)
    have p1 : w1.cell? ⟨w.heap.size, 1, none⟩ = some (.int .i64 t) := (hb1.cell (by simp)).trans (by simp)
    have p2 : w1.cell? ⟨w.heap.size, 2, none⟩ = some (.int .i64 l) := (hb1.cell (by simp)).trans (by simp)
    have hb01 : Below w.heap.size w w1 := hba.trans (hb1.mono (by simp))
    have HT1 := hid (HT.out.keeps hb1 (Nat.le_refl _))
    clear hb1
    go_wp2_with fail
    go_region_held3 (fun w' => w'.cell? ⟨w.heap.size, 0, none⟩ = some (.int .i64 m) ∧ w'.cell? ⟨w.heap.size, 1, none⟩ = some (.int .i64 t) ∧ w'.cell? ⟨w.heap.size, 2, none⟩ = some (.int .i64 l)) (first | exact ⟨z0, z1, z2⟩ | exact ⟨y0, y1, y2⟩ | exact ⟨x0, x1, x2⟩ | exact ⟨p0, p1, p2⟩ | go_keep)
      (first
        | (go_at_call_of 174 (Value.int .i64 m); refine (itoa_any m HM.out _ (by exact HT1.out.keeps (Below.refl _ _).drew (Nat.le_refl _))).mono ?_; rintro e w2 ⟨s2, rfl, hs2, hb2⟩; have qa : ¬ 9223372036854775807 < 5 + s2.size := (by omega); have qb : ¬ 9223372036854775807 < 5 + s2.size + 4 := (by omega); have hb12 : Below w1.heap.size w1 w2 := ((Below.refl _ _).drew).trans hb2; have hz2 := hb12.size; have x0 : w2.cell? ⟨w.heap.size, 0, none⟩ = some (.int .i64 m) := (hb12.cell (by exact hz1)).trans p0; have x1 : w2.cell? ⟨w.heap.size, 1, none⟩ = some (.int .i64 t) := (hb12.cell (by exact hz1)).trans p1; have x2 : w2.cell? ⟨w.heap.size, 2, none⟩ = some (.int .i64 l) := (hb12.cell (by exact hz1)).trans p2)
        | (go_at_call_of 174 (Value.int .i64 t); refine (itoa_any t HTT.out _ (by exact HT1.out.keeps hb12 (Nat.le_refl _))).mono ?_; rintro e w3 ⟨s3, rfl, hs3, hb3⟩; have qc : ¬ 9223372036854775807 < 5 + s2.size + 4 + s3.size := (by omega); have qd : ¬ 9223372036854775807 < 5 + s2.size + 4 + s3.size + 4 := (by omega); have hb13 : Below w1.heap.size w1 w3 := hb12.trans (hb3.mono hz2); have hz3 := hb13.size; have y0 : w3.cell? ⟨w.heap.size, 0, none⟩ = some (.int .i64 m) := (hb13.cell (by exact hz1)).trans p0; have y1 : w3.cell? ⟨w.heap.size, 1, none⟩ = some (.int .i64 t) := (hb13.cell (by exact hz1)).trans p1; have y2 : w3.cell? ⟨w.heap.size, 2, none⟩ = some (.int .i64 l) := (hb13.cell (by exact hz1)).trans p2)
        | (go_at_call_of 174 (Value.int .i64 l); refine (itoa_any l HL.out _ (by exact HT1.out.keeps hb13 (Nat.le_refl _))).mono ?_; rintro e w4 ⟨s4, rfl, hs4, hb4⟩; have qe : ¬ 9223372036854775807 < 5 + s2.size + 4 + s3.size + 4 + s4.size := (by omega); have hb14 : Below w1.heap.size w1 w4 := hb13.trans (hb4.mono hz3); have hz4 := hb14.size; have z0 : w4.cell? ⟨w.heap.size, 0, none⟩ = some (.int .i64 m) := (hb14.cell (by exact hz1)).trans p0; have z1 : w4.cell? ⟨w.heap.size, 1, none⟩ = some (.int .i64 t) := (hb14.cell (by exact hz1)).trans p1; have z2 : w4.cell? ⟨w.heap.size, 2, none⟩ = some (.int .i64 l) := (hb14.cell (by exact hz1)).trans p2))
    go_wp2_with (go_at_call 78; refine (at_chain _ _ 3 0 _ .hit).mono ?_; rintro e w5 ⟨e', rfl, hch, hb5⟩)
    go_ret
    exact ⟨_, rfl, hch, (hb01.trans (hb14.mono (by omega))).trans (hb5.mono (by omega))⟩
end Go.Proofs.YtcegdgmbponapaaGreatDoor

namespace Go.Proofs.YtcegdgmbponapaaGreatDoor
open Go.ChangeShapes Go.WideShapes Go.ChangeAt Go.RowKit Go.Joins

theorem Tryz.etL : Tryz.prog.globalNamed "errors.errorType" = some 0 := by kernel_rfl
theorem Tryz.rtL : (Tryz.prog.cutTypes.find? (·.1 == "internal/reflectlite.rtype")).map (·.2) = some 269 := by kernel_rfl
theorem Tryz.oneRowL : ((List.range Tryz.prog.types.size).filter fun t => Tryz.prog.rowNamed t [101, 114, 114, 111, 114]) = [97] := by kernel_rfl
theorem Tryz.pow10 : Tryz.prog.globalNamed "internal/strconv.uint64pow10" = some 2 := by kernel_rfl

theorem laid_parts {W : World} (h : laidMetH Tryz.prog [("math/bits.deBruijn32tab", Rows.laid_math_bits_deBruijn32tab), ("math/bits.deBruijn64tab", Rows.laid_math_bits_deBruijn64tab), ("internal/strconv.uint64pow10", Rows.laid_internal_strconv_uint64pow10), ("errors.errorType", Rows.laid_errors_errorType)] W) : laidMet Tryz.prog [("math/bits.deBruijn32tab", Rows.laid_math_bits_deBruijn32tab), ("math/bits.deBruijn64tab", Rows.laid_math_bits_deBruijn64tab), ("internal/strconv.uint64pow10", Rows.laid_internal_strconv_uint64pow10)] W ∧ handlesMet Tryz.prog [("errors.errorType", Rows.laid_errors_errorType)] W := h

theorem errType_laid {W : World} (h : laidMetH Tryz.prog [("math/bits.deBruijn32tab", Rows.laid_math_bits_deBruijn32tab), ("math/bits.deBruijn64tab", Rows.laid_math_bits_deBruijn64tab), ("internal/strconv.uint64pow10", Rows.laid_internal_strconv_uint64pow10), ("errors.errorType", Rows.laid_errors_errorType)] W) : ErrType W := by
  obtain ⟨name, u, ty, e1, e2, e3, e4, e5⟩ := (laid_parts h).2 _ (List.mem_singleton.2 rfl)
  have en : name = [101, 114, 114, 111, 114] := (Option.some.inj e1).symm
  subst en
  obtain rfl := Option.some.inj (Tryz.rtL.symm.trans e2)
  have hm : ty ∈ (List.range Tryz.prog.types.size).filter fun t => Tryz.prog.rowNamed t [101, 114, 114, 111, 114] := List.mem_filter.2 ⟨List.mem_range.2 e3, e4⟩
  rw [Tryz.oneRowL] at hm
  obtain rfl := List.mem_singleton.1 hm
  have hh : typeHandle Tryz.prog 97 = .pointer (some ⟨5, 97, none⟩) := by kernel_rfl
  rw [hh] at e5
  have hc : W.cell? ⟨0, 0, none⟩ = some (.iface 269 (.agg #[.pointer (some ⟨5, 97, none⟩)])) := by simpa using World.var?_cell Tryz.etL e5 0
  exact ⟨hc, World.block_lt_of_cell? W _ hc⟩

theorem tab_laid {W : World} (h : laidMetH Tryz.prog [("math/bits.deBruijn32tab", Rows.laid_math_bits_deBruijn32tab), ("math/bits.deBruijn64tab", Rows.laid_math_bits_deBruijn64tab), ("internal/strconv.uint64pow10", Rows.laid_internal_strconv_uint64pow10), ("errors.errorType", Rows.laid_errors_errorType)] W) : Tab W := by
  have h1 : Lib.TabIs Tryz.prog W "internal/strconv.uint64pow10" .u64 Lib.pow10Tab :=
    Lib.tabIs_of_head Tryz.pow10 (t := 367) (e := 22) (n := 20) (by kernel_rfl) Tryz.underlying367 Tryz.underlying22 (by kernel_rfl) (by kernel_rfl) (laidMet.tail (laidMet.tail (laid_parts h).1))
  exact ⟨h1, World.block_lt_of_cell? W _ (h1.cell Tryz.pow10 0 (by simp [Lib.pow10Tab]))⟩
end Go.Proofs.YtcegdgmbponapaaGreatDoor
