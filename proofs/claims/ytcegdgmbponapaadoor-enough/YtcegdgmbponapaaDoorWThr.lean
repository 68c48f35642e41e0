/-
  The threshold of cofferkeep; pieces that were cut, as Join reads them.
-/
import Derived.Test.YtcegdgmbponapaaDoorWJoin
import Derived.Test.YtcegdgmbponapaaDoorPieceRows
namespace Go.Proofs.YtcegdgmbponapaaDoor
open Go.RowKit
attribute [local go_sem ↓] Go.wp_at_zero Go.wp_at_succ

set_option maxRecDepth 100000 in
theorem keepThr_any (mode t l n : Nat) (w : World) (h : IsPlan mode t l n) :
    Calls Tryd.prog 21 #[.agg #[.int .i64 mode, .int .i64 t, .int .i64 l]] w fun e w' => e = .returned (.int .i64 ((Cof.gsize mode t l + Cof.tsize mode t : Nat) : Int)) ∧ Below w.heap.size w w' := by
  obtain ⟨h1, h2, h3, h4, h5, h6⟩ := h
  rcases h6 with ⟨rfl, h6⟩ | ⟨rfl, rfl⟩
  · go_enter Tryd.func21, Tryd.ntmps21
    go_wp2
    go_ret
    exact ⟨ret_int (by simp [Cof.gsize, Cof.tsize]; omega), (Below.refl _ _).alloc (Nat.le_refl _) _⟩
  · go_enter Tryd.func21, Tryd.ntmps21
    go_wp2
    go_ret
    exact ⟨ret_int (by simp [Cof.gsize, Cof.tsize]), (Below.refl _ _).alloc (Nat.le_refl _) _⟩

/-- The pieces that were cut, as Join reads them. -/
theorem pieces_right {w : World} {base k : Nat} {x : Value} {rows : List (List UInt8)} {ss : List Nat} (h : w.ownsRow base 57 2 x k (pcs rows ss)) (hk : ss.length = k) :
    ∃ a c, x = .slice a k c ∧ k ≤ c ∧ PRd w a ss (ss.map fun s => ⟨(rows.getD s []).toArray⟩) := by
  rcases Nat.eq_zero_or_pos k with h0 | h0
  · have hs : ss = [] := List.length_eq_zero_iff.1 (by omega)
    subst hs
    rcases h.2 with ⟨h1, h2⟩ | ⟨g, cap, cur, h1, _, _, h2, _⟩
    · exact ⟨none, 0, by rw [h1, h0], by omega, fun i hi => by simp at hi⟩
    · exact ⟨_, _, h1, h2, fun i hi => by simp at hi⟩
  · obtain ⟨g, c, rfl, h1, h2⟩ := h.form h0
    refine ⟨_, _, rfl, owns_cap h, fun i hi => ⟨g, 0, rfl, h2, ?_, ?_⟩⟩
    · rw [Nat.zero_add, h.cellAt (i * 2) (by omega), (pcs_at rows ss i hi).1]; simp [hi]
    · rw [Nat.zero_add, h.cellAt (i * 2 + 1) (by omega), (pcs_at rows ss i hi).2]; simp [hi, str]

theorem PRd.take {w : World} {a : Option Addr} {ss : List Nat} {ps : List ByteArray} (h : PRd w a ss ps) (n : Nat) : PRd w a (ss.take n) (ps.take n) := by
  intro i hi
  have hin : i < n := by simp at hi; omega
  obtain ⟨b, o, h1, h2, h3, h4⟩ := h i (by simp at hi; omega)
  exact ⟨b, o, h1, h2, by rw [h3]; simp [hin], by rw [h4]; simp [hin]⟩
end Go.Proofs.YtcegdgmbponapaaDoor
