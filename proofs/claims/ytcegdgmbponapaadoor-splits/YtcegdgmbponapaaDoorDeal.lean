/-
  Conversions between strings and bytes; rows that are dealt out one byte at a time.
-/
import Derived.Test.YtcegdgmbponapaaDoorBase
import Derived.Laws.IdiomStrings
import Derived.Deep.AppendLies
namespace Go.Proofs.YtcegdgmbponapaaDoor
open Go.RowKit

/-- '[]byte(s)'. -/
theorem conv_bytes (w : World) (s : ByteArray) : ∃ cap w', (convert 9 60 (.string s)).run Tryd.prog w = .ok (.slice (some ⟨w.heap.size, 0, none⟩) s.size cap) w' ∧ Rd w' (some ⟨w.heap.size, 0, none⟩) (bs s.data.toList) ∧ Below w.heap.size w w' ∧ w'.heap.size = w.heap.size + 1 := by
  refine ⟨_, _, run_bytes_of_string w 9 60 5 s Tryd.underlying9 Tryd.underlying60 Tryd.underlying5, ?_, ?_, ?_⟩
  · intro k v hk
    have hkl : k < s.data.size := by
      rcases Nat.lt_or_ge k s.data.size with h | h
      · exact h
      · rw [List.getElem?_eq_none (by simpa [bs] using h)] at hk; simp at hk
    refine ⟨w.heap.size, 0, rfl, by simp, ?_⟩
    rw [Nat.zero_add]
    have := World.cell?_alloc_mark w.drew (bytesRow s (grownCap w s.size 0 5)) 5 ((bytesRow s (grownCap w s.size 0 5)).size, (bytesRow s (grownCap w s.size 0 5)).size + 1) k
    rw [show w.drew.heap.size = w.heap.size from rfl, bytesRow_at s _ k hkl] at this
    rw [this]
    simp only [bs, List.getElem?_map, Array.getElem?_toList, Array.getElem?_eq_getElem hkl, Option.map_some] at hk
    exact hk
  · exact ((Below.refl _ _).drew).alloc (Nat.le_refl _) _
  · simp

/-- 'string(b)'. -/
theorem conv_string (w : World) (a : Option Addr) (cap n : Nat) (xs : List UInt8) (en : n = xs.length) (hr : Rd w a (bs xs)) : (convert 60 9 (.slice a n cap)).run Tryd.prog w = .ok (.string ⟨xs.toArray⟩) w := by
  subst en
  cases a with
  | none =>
    have : xs = [] := by
      cases xs with
      | nil => rfl
      | cons x r => obtain ⟨b, o, h, _⟩ := hr 0 _ rfl; cases h
    subst this
    rw [run_convert_bytes_string w 60 9 5 none _ cap Tryd.underlying60 Tryd.underlying5 Tryd.underlying9]
    rfl
  | some ad =>
    refine run_convert_bytes_back w 60 9 5 ad cap xs Tryd.underlying60 Tryd.underlying5 Tryd.underlying9 ?_
    intro j hj
    obtain ⟨b, o, h1, h2, h3⟩ := hr j _ (bs_get xs j hj)
    cases h1
    rw [add_at, h3]
    simp [hj]

theorem owns_below {B : Nat} {w W : World} {base n : Nat} {e : TypeId} {v : Value} {xs : List Value} (h : w.ownsRow base e 1 v n xs) (hb : Below B w W) (hB : w.heap.size ≤ B) : W.ownsRow base e 1 v n xs := by
  obtain ⟨h1, h2⟩ := h
  refine ⟨h1, ?_⟩
  rcases h2 with h2 | ⟨g, cap, cur, e1, e2, e3, e4⟩
  · exact .inl h2
  · have hg : g < w.heap.size := by
      rcases Nat.lt_or_ge g w.heap.size with h | h
      · exact h
      · rw [Array.getElem?_eq_none h] at e3; cases e3
    exact .inr ⟨g, cap, cur, e1, e2, by rw [hb.block g (by omega)]; exact e3, e4⟩

/-- Rows of the call's own, each in memory of its own, in a row of slices of the call's own. -/
structure Deal (w : World) (base g0 width B2 : Nat) (rows : Nat → List UInt8) (vs : List Value) : Prop where
  own : w.ownsRow base 60 1 (.slice (some ⟨g0, 0, none⟩) width width) width vs
  row : ∀ (j : Nat) (v : Value), vs[j]? = some v → w.ownsRow B2 5 1 v (rows j).length (bs (rows j))
  apart : ∀ (i j : Nat) (vi vj : Value), i ≠ j → vs[i]? = some vi → vs[j]? = some vj → vi.ownBlock = none ∨ vi.ownBlock ≠ vj.ownBlock
  lt : g0 < B2
  le : B2 ≤ w.heap.size

theorem Deal.step {w W w1 : World} {base g0 width B2 r g cap : Nat} {rows rows' : Nat → List UInt8} {vs : List Value} {v : Value} {x : UInt8} (h : Deal w base g0 width B2 rows vs) (hr : vs[r]? = some v)
    (hbW : Below w.heap.size w W) (hown : w1.ownsRow B2 5 1 (.slice (some ⟨g, 0, none⟩) ((rows r).length + 1) cap) ((rows r).length + 1) (bs (rows r) ++ [.int .u8 x.toNat]))
    (hgrow : W.grownBy w1 v.ownBlock) (hat : v.ownBlock = some g ∨ g = W.heap.size) (e1 : rows' r = rows r ++ [x]) (e2 : ∀ j, j ≠ r → rows' j = rows j) :
    Deal (w1.setCell ⟨g0, r, none⟩ (.slice (some ⟨g, 0, none⟩) ((rows r).length + 1) cap)) base g0 width B2 rows' (vs.set r (.slice (some ⟨g, 0, none⟩) ((rows r).length + 1) cap)) := by
  have hrl : r < vs.length := (List.getElem?_eq_some_iff.1 hr).1
  have hv := h.row r v hr
  have hg0 : g0 < w.heap.size := (h.own.lt g0 rfl).2
  have hvb : ∀ k, v.ownBlock = some k → B2 ≤ k := fun k hk => (hv.lt k hk).1
  have hlt := h.lt
  refine ⟨?_, ?_, ?_, h.lt, ?_⟩
  · have hk : w1.ownsRow base 60 1 (.slice (some ⟨g0, 0, none⟩) width width) width vs := by
      refine (owns_below h.own hbW (Nat.le_refl _)).kept hgrow (.inr ?_)
      intro hc
      have := hvb g0 (by rw [← hc]; rfl)
      omega
    exact (hk.stored r _).1
  · intro j u hj
    rw [List.getElem?_set] at hj
    split at hj
    · rename_i hrj
      subst hrj
      simp at hj
      subst hj
      rw [e1]
      have : bs (rows r ++ [x]) = bs (rows r) ++ [.int .u8 x.toNat] := by simp [bs]
      rw [this, List.length_append]
      exact ownsRow_setCell_below hown (by exact hlt) _
    · rename_i hrj
      rw [e2 j (fun h => hrj h.symm)]
      refine ownsRow_setCell_below ((owns_below (h.row j u hj) hbW (Nat.le_refl _)).kept hgrow ?_) (by exact hlt) _
      exact h.apart j r u v (fun h => hrj h.symm) hj hr
  · have key : ∀ j u, j ≠ r → vs[j]? = some u → u.ownBlock = none ∨ u.ownBlock ≠ some g := by
      intro j u hjr hj
      rcases hat with hat | hat
      · have := h.apart j r u v hjr hj hr
        rw [hat] at this
        exact this
      · refine .inr ?_
        intro hc
        have := ((h.row j u hj).lt g hc).2
        have := hbW.size
        omega
    intro i j vi vj hij hi hj
    rw [List.getElem?_set] at hi hj
    split at hi
    · rename_i hri
      subst hri
      rw [if_neg (by omega)] at hj
      simp at hi
      subst hi
      rcases key j vj (by omega) hj with h' | h'
      · exact .inr (by rw [h']; simp [Value.ownBlock])
      · exact .inr (fun hc => h' (by rw [← hc]; rfl))
    · rename_i hri
      split at hj
      · rename_i hrj
        subst hrj
        simp at hj
        subst hj
        exact key i vi (by omega) hi
      · exact h.apart i j vi vj hij hi hj
  · have := hgrow.size
    have := hbW.size
    have := h.le
    have e : (w1.setCell ⟨g0, r, none⟩ (.slice (some ⟨g, 0, none⟩) ((rows r).length + 1) cap)).heap.size = w1.heap.size := by simp
    rw [e]; omega

/-- What was there ahead of the rows, the row of slices aside, stays. -/
theorem Deal.others {w W w1 : World} {base g0 width B2 r : Nat} {rows : Nat → List UInt8} {vs : List Value} {v u : Value} (h : Deal w base g0 width B2 rows vs) (hr : vs[r]? = some v)
    (hbW : Below w.heap.size w W) (hgrow : W.grownBy w1 v.ownBlock) (k : Nat) (hk : k < B2) (hne : k ≠ g0) : (w1.setCell ⟨g0, r, none⟩ u).heap[k]? = w.heap[k]? := by
  have hv := h.row r v hr
  have hle := h.le
  rw [Below.heap_setCell _ _ _ _ (by exact hne), hgrow.block k (by have := hbW.size; omega) ?_, hbW.block k (by omega)]
  intro hc
  have := (hv.lt k hc.symm).1
  omega

theorem Deal.cell {w : World} {base g0 width B2 r : Nat} {rows : Nat → List UInt8} {vs : List Value} (h : Deal w base g0 width B2 rows vs) (hr : r < width) : ∃ v, vs[r]? = some v ∧ w.cell? ⟨g0, r, none⟩ = some v ∧ w.frozen? ⟨g0, r, none⟩ = false ∧ w.ownsRow B2 5 1 v (rows r).length (bs (rows r)) := by
  have hl := (block_of_owns h.own).2.2
  obtain ⟨v, hv⟩ : ∃ v, vs[r]? = some v := ⟨_, List.getElem?_eq_getElem (by omega)⟩
  exact ⟨v, hv, by rw [h.own.cellAt r (by omega)]; exact hv, h.own.frozenAt r, h.row r v hv⟩

theorem Deal.full {w : World} {base g0 width B2 : Nat} {rows : Nat → List UInt8} {vs : List Value} (h : Deal w base g0 width B2 rows vs) : RdRows w (some ⟨g0, 0, none⟩) ((List.range width).map rows) := by
  have hl := (block_of_owns h.own).2.2
  refine ⟨vs, by simp [hl], owns_rd h.own, fun k v hv => ?_⟩
  have hk : k < width := by
    rcases Nat.lt_or_ge k width with h' | h'
    · exact h'
    · rw [List.getElem?_eq_none (by omega)] at hv; simp at hv
  obtain ⟨a, cap, h1, h2⟩ := owns_any_rd (h.row k v hv)
  exact ⟨a, cap, by simpa [hk] using h1, by simpa [hk] using h2⟩

theorem Deal.start {w : World} {base g0 width B2 : Nat} (h : w.ownsRow base 60 1 (.slice (some ⟨g0, 0, none⟩) width width) width (List.replicate width (.slice none 0 0))) (h1 : g0 < B2) (h2 : B2 ≤ w.heap.size) :
    Deal w base g0 width B2 (fun _ => []) (List.replicate width (.slice none 0 0)) := by
  refine ⟨h, ?_, ?_, h1, h2⟩
  · intro j v hj
    rw [List.getElem?_replicate] at hj
    split at hj
    · simp at hj; subst hj; exact World.ownsRow_nil _ _ _ _
    · cases hj
  · intro i j vi vj _ hi _
    rw [List.getElem?_replicate] at hi
    split at hi
    · simp at hi; subst hi; exact .inl rfl
    · cases hi
end Go.Proofs.YtcegdgmbponapaaDoor
