/-
  The rows that Join gathers: the points, and the bytes at each.
-/
import Derived.Test.YtcegdgmbponapabGreatDoorPart24
namespace Go.Proofs.YtcegdgmbponapabGreatDoor
open Go.RowKit

theorem Rd.grown {w w1 : World} {v : Value} {g : Nat} {cs : List Value} (h : Rd w (some ⟨g, 0, none⟩) cs) (hg : g < w.heap.size) (hgrow : w.grownBy w1 v.ownBlock) (hne : v.ownBlock ≠ some g) (hz : w.heap.size ≤ w1.heap.size) : Rd w1 (some ⟨g, 0, none⟩) cs := by
  intro k u hk
  obtain ⟨b, o, h1, h2, h3⟩ := h k u hk
  injection h1 with h1
  injection h1 with e1 e2
  subst e1 e2
  exact ⟨g, 0, rfl, by omega, (hgrow.cell_far _ (by exact hg) (Ne.symm hne)).trans h3⟩

/-- The points in one row, the bytes of each in a block of its own; all apart. -/
structure JL (w : World) (B : Nat) (vf vr : Value) (xs : List UInt8) (rows : List (List UInt8)) (vs : List Value) : Prop where
  f : w.ownsRow B 188 1 vf xs.length (bs xs)
  r : w.ownsRow B 44 1 vr rows.length vs
  each : ∀ j, j < rows.length → ∃ g c, vs[j]? = some (.slice (some ⟨g, 0, none⟩) (rows.getD j []).length c) ∧ g < w.heap.size ∧ Rd w (some ⟨g, 0, none⟩) (bs (rows.getD j [])) ∧ vf.ownBlock ≠ some g ∧ vr.ownBlock ≠ some g
  apart : Apart vf vr

theorem JL.start (w : World) (B : Nat) : JL w B (.slice none 0 0) (.slice none 0 0) [] [] [] := ⟨World.ownsRow_nil _ _ _ _, World.ownsRow_nil _ _ _ _, fun j hj => by simp at hj, .inl rfl⟩

theorem JL.pushF {w W w1 : World} {B g cap : Nat} {vf vr : Value} {xs : List UInt8} {rows : List (List UInt8)} {vs : List Value} {a : UInt8} (h : JL w B vf vr xs rows vs) (hb : Below w.heap.size w W)
    (hown : w1.ownsRow B 188 1 (.slice (some ⟨g, 0, none⟩) (xs.length + 1) cap) (xs.length + 1) (bs xs ++ [.int .u8 a.toNat])) (hgrow : W.grownBy w1 vf.ownBlock) (hat : vf.ownBlock = some g ∨ g = W.heap.size) (hz : W.heap.size ≤ w1.heap.size) :
    JL w1 B (.slice (some ⟨g, 0, none⟩) (xs.length + 1) cap) vr (xs ++ [a]) rows vs := by
  have hs := hb.size
  refine ⟨by rw [bs_snoc, List.length_append]; exact hown, (owns_below h.r hb (Nat.le_refl _)).kept hgrow h.apart.symm.left, fun j hj => ?_, ?_⟩
  · obtain ⟨g', c', h1, h2, h3, h4, h5⟩ := h.each j hj
    refine ⟨g', c', h1, by omega, (h3.below hb (Nat.le_refl _)).grown (by omega) hgrow h4 hz, ?_, h5⟩
    intro e
    have e' : g = g' := by simpa [Value.ownBlock] using e
    rcases hat with hat | hat
    · exact h4 (by rw [hat, e'])
    · omega
  · rcases hat with hat | hat
    · rcases h.apart with h1 | h1 | h1
      · rw [h1] at hat; cases hat
      · exact .inr (.inl h1)
      · exact .inr (.inr (by rw [hat] at h1; exact h1))
    · cases hy : vr.ownBlock with
      | none => exact .inr (.inl hy)
      | some b =>
        refine .inr (.inr ?_)
        rw [hy]
        intro e
        have e' : g = b := by simpa [Value.ownBlock] using e
        have := (h.r.lt b hy).2
        omega

theorem JL.pushR {w W w1 : World} {B g cap gN cN : Nat} {vf vr : Value} {xs p : List UInt8} {rows : List (List UInt8)} {vs : List Value} (h : JL w B vf vr xs rows vs) (hb : Below w.heap.size w W) (hN1 : w.heap.size ≤ gN) (hN2 : gN < W.heap.size) (hrd : Rd W (some ⟨gN, 0, none⟩) (bs p))
    (hown : w1.ownsRow B 44 1 (.slice (some ⟨g, 0, none⟩) (rows.length + 1) cap) (rows.length + 1) (vs ++ [.slice (some ⟨gN, 0, none⟩) p.length cN])) (hgrow : W.grownBy w1 vr.ownBlock) (hat : vr.ownBlock = some g ∨ g = W.heap.size) (hz : W.heap.size ≤ w1.heap.size) :
    JL w1 B vf (.slice (some ⟨g, 0, none⟩) (rows.length + 1) cap) xs (rows ++ [p]) (vs ++ [.slice (some ⟨gN, 0, none⟩) p.length cN]) := by
  have hs := hb.size
  have hvl : vs.length = rows.length := by have := h.r.1; omega
  have hrN : ∀ b, vr.ownBlock = some b → b < w.heap.size := fun b hb' => (h.r.lt b hb').2
  refine ⟨(owns_below h.f hb (Nat.le_refl _)).kept hgrow h.apart.left, by rw [List.length_append]; exact hown, fun j hj => ?_, ?_⟩
  · rw [List.length_append] at hj
    by_cases hjl : j < rows.length
    · obtain ⟨g', c', h1, h2, h3, h4, h5⟩ := h.each j hjl
      have e1 : (rows ++ [p]).getD j [] = rows.getD j [] := by rw [List.getD_eq_getElem?_getD, List.getElem?_append_left hjl, ← List.getD_eq_getElem?_getD]
      rw [e1]
      refine ⟨g', c', by rw [List.getElem?_append_left (by omega)]; exact h1, by omega, (h3.below hb (Nat.le_refl _)).grown (by omega) hgrow h5 hz, h4, ?_⟩
      intro e
      have e' : g = g' := by simpa [Value.ownBlock] using e
      rcases hat with hat | hat
      · exact h5 (by rw [hat, e'])
      · omega
    · have hje : j = rows.length := by simp at hj; omega
      subst hje
      have e1 : (rows ++ [p]).getD rows.length [] = p := by simp
      rw [e1]
      refine ⟨gN, cN, by rw [List.getElem?_append_right (by omega), hvl]; simp, by omega, hrd.grown hN2 hgrow (fun e => by have := hrN gN e; omega) hz, fun e => by have := (h.f.lt gN e).2; omega, ?_⟩
      intro e
      have e' : g = gN := by simpa [Value.ownBlock] using e
      rcases hat with hat | hat
      · have := hrN g hat; omega
      · omega
  · rcases hat with hat | hat
    · rcases h.apart with h1 | h1 | h1
      · exact .inl h1
      · rw [h1] at hat; cases hat
      · exact .inr (.inr (by rw [hat] at h1; exact h1))
    · cases hy : vf.ownBlock with
      | none => exact .inl hy
      | some b =>
        refine .inr (.inr ?_)
        rw [hy]
        intro e
        have e' : b = g := by simpa [Value.ownBlock] using e
        have := (h.f.lt b hy).2
        omega

theorem JL.keeps {w w' : World} {B : Nat} {vf vr : Value} {xs : List UInt8} {rows : List (List UInt8)} {vs : List Value} (h : JL w B vf vr xs rows vs) (hb : Below w.heap.size w w') : JL w' B vf vr xs rows vs := by
  refine ⟨owns_below h.f hb (Nat.le_refl _), owns_below h.r hb (Nat.le_refl _), fun j hj => ?_, h.apart⟩
  obtain ⟨g', c', h1, h2, h3, h4, h5⟩ := h.each j hj
  exact ⟨g', c', h1, Nat.lt_of_lt_of_le h2 hb.size, h3.below hb (Nat.le_refl _), h4, h5⟩

/-- What is read of them. -/
theorem JL.full {w : World} {B : Nat} {vf vr : Value} {xs : List UInt8} {rows : List (List UInt8)} {vs : List Value} (h : JL w B vf vr xs rows vs) :
    ∃ af cf ar cr, vf = .slice af xs.length cf ∧ vr = .slice ar rows.length cr ∧ Rd w af (bs xs) ∧ RdRows w ar rows := by
  obtain ⟨af, cf, e1, h1⟩ := owns_any_rd h.f
  obtain ⟨ar, cr, e2, h2⟩ := owns_any_rd h.r
  refine ⟨af, cf, ar, cr, e1, e2, h1, vs, by have := h.r.1; omega, h2, fun k v hk => ?_⟩
  have hkl : k < rows.length := by
    rcases Nat.lt_or_ge k rows.length with h' | h'
    · exact h'
    · rw [List.getElem?_eq_none (by have := h.r.1; omega)] at hk; simp at hk
  obtain ⟨g', c', h3, _, h5, _, _⟩ := h.each k hkl
  rw [h3] at hk
  injection hk with hk
  exact ⟨_, _, hk.symm, h5⟩
end Go.Proofs.YtcegdgmbponapabGreatDoor
