/-
  What the rows' condition gives the walks: the table of powers of ten, and the variable errors.errorType.
-/
import Derived.Test.YtcegdgmbponapaaDoorDoor
import Derived.Test.YtcegdgmbponapaaDoorWFail
import Derived.Lib.LaidTab
import Derived.Stop.LaidErr
namespace Go.Proofs.YtcegdgmbponapaaDoor
open Go.ChangeShapes Go.WideShapes Go.ChangeAt Go.RowKit Go.Joins

theorem Tryd.etL : Tryd.prog.globalNamed "errors.errorType" = some 0 := by kernel_rfl
theorem Tryd.rtL : (Tryd.prog.cutTypes.find? (·.1 == "internal/reflectlite.rtype")).map (·.2) = some 145 := by kernel_rfl
theorem Tryd.oneRowL : ((List.range Tryd.prog.types.size).filter fun t => Tryd.prog.rowNamed t [101, 114, 114, 111, 114]) = [68] := by kernel_rfl
theorem Tryd.pow10 : Tryd.prog.globalNamed "internal/strconv.uint64pow10" = some 1 := by kernel_rfl

theorem laid_parts {W : World} (h : laidMetH Tryd.prog Rows.splitsRow.laid W) : laidMet Tryd.prog [("math/bits.deBruijn32tab", Rows.laid_math_bits_deBruijn32tab), ("math/bits.deBruijn64tab", Rows.laid_math_bits_deBruijn64tab), ("internal/strconv.uint64pow10", Rows.laid_internal_strconv_uint64pow10)] W ∧ handlesMet Tryd.prog [("errors.errorType", Rows.laid_errors_errorType)] W := h

theorem errType_laid {W : World} (h : laidMetH Tryd.prog Rows.splitsRow.laid W) : ErrType W := by
  obtain ⟨name, u, ty, e1, e2, e3, e4, e5⟩ := (laid_parts h).2 _ (List.mem_singleton.2 rfl)
  have en : name = [101, 114, 114, 111, 114] := (Option.some.inj e1).symm
  subst en
  obtain rfl := Option.some.inj (Tryd.rtL.symm.trans e2)
  have hm : ty ∈ (List.range Tryd.prog.types.size).filter fun t => Tryd.prog.rowNamed t [101, 114, 114, 111, 114] := List.mem_filter.2 ⟨List.mem_range.2 e3, e4⟩
  rw [Tryd.oneRowL] at hm
  obtain rfl := List.mem_singleton.1 hm
  have hh : typeHandle Tryd.prog 68 = .pointer (some ⟨4, 68, none⟩) := by kernel_rfl
  rw [hh] at e5
  have hc : W.cell? ⟨0, 0, none⟩ = some (.iface 145 (.agg #[.pointer (some ⟨4, 68, none⟩)])) := by simpa using World.var?_cell Tryd.etL e5 0
  exact ⟨hc, World.block_lt_of_cell? W _ hc⟩

theorem tab_laid {W : World} (h : laidMetH Tryd.prog Rows.splitsRow.laid W) : Tab W := by
  have h1 : Lib.TabIs Tryd.prog W "internal/strconv.uint64pow10" .u64 Lib.pow10Tab :=
    Lib.tabIs_of_head Tryd.pow10 (t := 174) (e := 166) (n := 20) (by kernel_rfl) Tryd.underlying174 Tryd.underlying166 (by kernel_rfl) (by kernel_rfl) (laidMet.tail (laidMet.tail (laid_parts h).1))
  exact ⟨h1, World.block_lt_of_cell? W _ (h1.cell Tryd.pow10 0 (by simp [Lib.pow10Tab]))⟩
end Go.Proofs.YtcegdgmbponapaaDoor
