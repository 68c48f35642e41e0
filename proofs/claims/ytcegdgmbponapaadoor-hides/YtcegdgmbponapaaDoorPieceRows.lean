/-
  Lists of ints and of pieces, as cells.
-/
import Derived.Test.YtcegdgmbponapaaDoorWXor
namespace Go.Proofs.YtcegdgmbponapaaDoor
open Go.RowKit

def ints (ss : List Nat) : List Value := ss.map fun (s : Nat) => .int .i64 (s : Int)
def pcs (rows : List (List UInt8)) (ss : List Nat) : List Value := ss.flatMap fun (s : Nat) => [.int .i64 (s : Int), str (rows.getD s [])]

theorem ints_get (ss : List Nat) (k : Nat) (h : k < ss.length) : (ints ss)[k]? = some (.int .i64 ss[k]) := by simp [ints, h]
theorem pcs_length (rows : List (List UInt8)) (ss : List Nat) : (pcs rows ss).length = ss.length * 2 := by
  induction ss with
  | nil => rfl
  | cons s r ih => simp only [pcs, List.flatMap_cons, List.length_append] at ih ⊢; rw [ih]; simp; omega
theorem pcs_snoc (rows : List (List UInt8)) (ss : List Nat) (k : Nat) (h : k < ss.length) : pcs rows (ss.take (k + 1)) = pcs rows (ss.take k) ++ [.int .i64 ss[k], str (rows.getD ss[k] [])] := by
  rw [List.take_succ_eq_append_getElem h]; unfold pcs; rw [List.flatMap_append]; rfl
theorem pcs_at (rows : List (List UInt8)) (ss : List Nat) (k : Nat) (h : k < ss.length) : (pcs rows ss)[k * 2]? = some (.int .i64 ss[k]) ∧ (pcs rows ss)[k * 2 + 1]? = some (str (rows.getD ss[k] [])) := by
  induction ss generalizing k with
  | nil => simp at h
  | cons s r ih =>
    cases k with
    | zero => simp [pcs]
    | succ k =>
      have := ih k (by simpa using h)
      simp only [pcs, List.flatMap_cons] at this ⊢
      rw [show (k + 1) * 2 = k * 2 + 2 from by omega, show k * 2 + 2 + 1 = (k * 2 + 1) + 2 from by omega]
      simpa using this

theorem Tryd.infoPiece : (Tryd.prog.info? 57).map (fun i => (i.zero, i.size, i.bytes)) = some (some (.agg #[.int .i64 0, .string ByteArray.empty]), 2, 24) := by kernel_rfl
end Go.Proofs.YtcegdgmbponapaaDoor
