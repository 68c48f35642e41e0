/-
  A slice of pieces that is handed in.
-/
import Derived.Test.YtcegdgmbponapaaDoorLaid
import Derived.Test.YtcegdgmbponapaaDoorWJoins
import Derived.Deep.SlicePairs
import Derived.SizedLaws
namespace Go.Proofs.YtcegdgmbponapaaDoor
open Go.ChangeShapes Go.WideShapes Go.ChangeAt Go.RowKit Go.Joins

def strOf : Value → ByteArray
  | .string s => s
  | _ => ByteArray.empty

theorem Tryd.cellsPiece : Tryd.prog.cellsOf 57 = 2 := by kernel_rfl
theorem Tryd.cellsStr : Tryd.prog.cellsOf 9 = 1 := by kernel_rfl
theorem Tryd.bytesPiece : Tryd.prog.bytesOf 57 = 24 := by kernel_rfl

set_option maxRecDepth 100000 in
theorem open_piecesArg {H : Type} {enc : TypeId × Value → H} {W : World} {base : Nat} {v : Value} {d : DataW H} {p : List MemPlace} (hv : Value.okWide Tryd.prog W .any base 39 v) (h : DataW.Trod enc Tryd.prog W 0 (fun _ => true) true 39 v d p) :
    ∃ a len cap zs ps, v = .slice a len cap ∧ len = zs.length ∧ ps.length = len ∧ len ≤ cap ∧ PZ W a zs ps ∧ (a = none → len = 0) ∧ (∀ z ∈ zs, I64 z) ∧ (∀ i, i < len → (ps.getD i ByteArray.empty).size ≤ maxLen) ∧ (0 < len → ∃ es sp, d = .slice es sp ∧ len ≤ es.length + sp.length) := by
  obtain ⟨a0, len, cap, rfl⟩ := okWide_slice Tryd.underlying39 hv
  obtain ⟨fuel, hf⟩ := h
  rcases Deep.open_slice_pairs Tryd.underlying39 Tryd.underlying57 Tryd.cellsPiece rfl rfl Tryd.cellsInt Tryd.cellsStr hf with ⟨hcs, hx⟩ | ⟨a, len', cap', m, n, V0, V1, D0, D1, P0, P1, hcs, _, hl, hmx, hm, hx, hcell⟩
  · simp [Value.cells] at hcs
    obtain ⟨rfl, rfl, rfl⟩ := hcs
    exact ⟨_, _, _, [], [], rfl, rfl, rfl, Nat.le_refl _, fun i hi => by simp at hi, fun _ => rfl, fun z hz => (by cases hz), fun i hi => (by omega), fun h => (by omega)⟩
  · simp [Value.cells] at hcs
    obtain ⟨rfl, rfl, rfl⟩ := hcs
    simp only [if_true] at hm
    have each : ∀ i, i < len → V0 i = .int .i64 (intOf (V0 i)) ∧ I64 (intOf (V0 i)) ∧ V1 i = .string (strOf (V1 i)) ∧ (strOf (V1 i)).size ≤ maxLen := fun i hi => by
      obtain ⟨_, _, t0, t1⟩ := hcell i (by omega)
      obtain ⟨z, e0, _, wz⟩ := DataW.trod_int Tryd.underlying3 t0
      obtain ⟨s, e1, _, ws⟩ := DataW.trod_string Tryd.underlying9 t1
      simp at e0 e1
      rw [e0, e1]
      exact ⟨rfl, i64_of_wf wz, rfl, ws⟩
    refine ⟨_, _, _, (List.range len).map fun i => intOf (V0 i), (List.range len).map fun i => strOf (V1 i), rfl, by simp, by simp, hl, ?_, fun h => (by cases h), ?_, ?_, ?_⟩
    · intro i hi
      have hil : i < len := by simpa using hi
      obtain ⟨h0, h1, _, _⟩ := hcell i (by omega)
      obtain ⟨e0, _, e1, _⟩ := each i hil
      obtain ⟨b, off, spot⟩ := a
      have hspot : spot = none := by simpa [Addr.add] using World.cell?_spot (hcell 0 (by omega)).1
      subst hspot
      rw [add_at] at h0 h1
      refine ⟨b, off, rfl, World.block_lt_of_cell? W _ h0, ?_, ?_⟩
      · rw [h0, e0]; simp [hil]
      · rw [Nat.add_assoc, h1, e1]; simp [hil, strOf]
    · intro z hz
      obtain ⟨i, hi, rfl⟩ := List.mem_map.1 hz
      exact (each i (List.mem_range.1 hi)).2.1
    · intro i hi
      have := (each i hi).2.2.2
      simpa [hi] using this
    · intro _
      simp only [Prod.mk.injEq] at hx
      exact ⟨_, _, hx.1, by simp⟩
end Go.Proofs.YtcegdgmbponapaaDoor
