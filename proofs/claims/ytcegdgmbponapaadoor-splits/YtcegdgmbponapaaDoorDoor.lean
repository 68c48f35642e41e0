/-
  What the proofs of the cards have in common: the door's heap, a plan as an argument, a slice of ints as an argument.
-/
import Derived.Test.YtcegdgmbponapaaDoorCards
import Derived.Test.YtcegdgmbponapaaDoorTie
import Derived.Test.YtcegdgmbponapaaDoorWChosen
import Derived.ProofKit
import Derived.OpenShut
import Derived.LaidMore
import Derived.Stop.Joined
import Derived.Lib.SmallJoins
import Derived.Carry
import Derived.ChangeSlices
namespace Go.Proofs.YtcegdgmbponapaaDoor
open Go.ChangeShapes Go.WideShapes Go.ChangeAt Go.RowKit Go.Joins
open Go.ChangeMaps (open_string shut_string)

theorem own : ownKnob Tryd.prog.godebug = none := by kernel_rfl
theorem Tryd.cellsPlan : Tryd.prog.cellsOf 23 = 3 := by kernel_rfl

/-- The heap that the door's own run leaves meets what the rows list. -/
theorem door_met (os : Os) (args : Array Value) : laidMetH Tryd.prog Rows.plainRow.laid ((World.doorLaid Tryd.prog 31 os).forCall (fun _ _ => 0) ⟨#[], args, []⟩).memory :=
  laidMetH_of_parts3 (fuel := 8) (laidMet_of_run' 8 (by kernel_rfl) (by kernel_rfl)) (by kernel_rfl) (by kernel_rfl)

theorem i64_of_wf {n : Int} (h : (Lit.int .i64 n).wf = true) : I64 n := by
  have := bounds_i64 h
  unfold I64
  omega


set_option maxRecDepth 100000 in
/-- A plan that is handed in. -/
theorem open_plan {H : Type} {enc : TypeId × Value → H} {W : World} {base : Nat} {v : Value} {d : DataW H} {p : List MemPlace} (hv : Value.okWide Tryd.prog W .any base 23 v) (h : DataW.Trod enc Tryd.prog W 0 (fun _ => true) true 23 v d p) :
    ∃ pm pt pl : Int, v = .agg #[.int .i64 pm, .int .i64 pt, .int .i64 pl] ∧ p = [] ∧ d = .agg [.lit (.int .i64 pm), .lit (.int .i64 pt), .lit (.int .i64 pl)] ∧ I64 pm ∧ I64 pt ∧ I64 pl ∧
      ∀ (W' : World) (sp : Nat → Bool), DataW.Trod enc Tryd.prog W' 0 sp true 23 v d [] := by
  obtain ⟨c0, c1, c2, y0, y1, y2, m, rfl, rfl, rfl, hy0, hy1, hy2⟩ := open_agg3 Tryd.underlying23 (by kernel_rfl) Tryd.cellsPlan hv h
  obtain ⟨pm, e0, rfl, wm⟩ := DataW.trod_int Tryd.underlying3 hy0
  obtain ⟨pt, e1, rfl, wt⟩ := DataW.trod_int Tryd.underlying3 hy1
  obtain ⟨pl, e2, rfl, wl⟩ := DataW.trod_int Tryd.underlying3 hy2
  simp at e0 e1 e2
  subst e0 e1 e2
  exact ⟨pm, pt, pl, rfl, rfl, rfl, i64_of_wf wm, i64_of_wf wt, i64_of_wf wl, fun W' sp => shut_agg3 (y0 := (.lit (.int .i64 pm), [])) (y1 := (.lit (.int .i64 pt), [])) (y2 := (.lit (.int .i64 pl), [])) Tryd.underlying23 (by kernel_rfl) Tryd.cellsPlan ⟨1, by simp [DataW.trod, Tryd.underlying3, wm]⟩ ⟨1, by simp [DataW.trod, Tryd.underlying3, wt]⟩ ⟨1, by simp [DataW.trod, Tryd.underlying3, wl]⟩⟩

theorem Tryd.cellsInt : Tryd.prog.cellsOf 3 = 1 := by kernel_rfl
theorem Tryd.laidOut : laidOutB Tryd.prog = true := by kernel_rfl

set_option maxRecDepth 100000 in
/-- A slice of ints that is handed in. -/
theorem open_intArg {H : Type} {enc : TypeId × Value → H} {W : World} {base : Nat} {v : Value} {d : DataW H} {p : List MemPlace} (hv : Value.okWide Tryd.prog W .any base 47 v) (h : DataW.Trod enc Tryd.prog W 0 (fun _ => true) true 47 v d p) (hlt : ∀ x ∈ p, x.block < W.heap.size) :
    ∃ a len cap zs, v = .slice a len cap ∧ len = zs.length ∧ len ≤ maxLen ∧ Rd W a (intsZ zs) ∧ (∀ z ∈ zs, I64 z) := by
  obtain ⟨a0, len, cap, rfl⟩ := okWide_slice Tryd.underlying47 hv
  obtain ⟨fuel, hf⟩ := h
  rcases open_ints Tryd.underlying47 Tryd.underlying3 Tryd.cellsInt hf with ⟨hcs, hx⟩ | ⟨a, len', cap', zs, hcs, _, hl, hm, hz, hx, hcell, hws⟩
  · simp [Value.cells] at hcs
    obtain ⟨rfl, rfl, rfl⟩ := hcs
    exact ⟨_, _, _, [], rfl, rfl, by unfold maxLen; omega, Rd.nil _ _, fun z hz => by cases hz⟩
  · simp [Value.cells] at hcs
    obtain ⟨rfl, rfl, rfl⟩ := hcs
    simp only [Prod.mk.injEq] at hx
    obtain ⟨rfl, rfl⟩ := hx
    simp only [if_true] at hz
    refine ⟨_, _, _, zs.take len, rfl, by rw [List.length_take]; omega, by omega, ?_, fun z hz => i64_of_wf (hws z (List.mem_of_mem_take hz))⟩
    intro k u hk
    have hkl : k < len := by
      rcases Nat.lt_or_ge k len with h | h
      · exact h
      · rw [List.getElem?_eq_none (by simp [intsZ]; omega)] at hk; simp at hk
    obtain ⟨b, off, spot⟩ := a
    have hspot : spot = none := by simpa [Addr.add] using World.cell?_spot (hcell 0 (by omega))
    subst hspot
    refine ⟨b, off, rfl, hlt (.cell b off) (MemPlace.mem_row.2 ⟨0, by omega, by simp⟩), ?_⟩
    have h1 := hcell k (by omega)
    rw [add_at] at h1
    rw [h1, ← hk, intsZ_get _ _ (by rw [List.length_take]; omega)]
    have : k < zs.length := by omega
    simp [this]
end Go.Proofs.YtcegdgmbponapaaDoor
