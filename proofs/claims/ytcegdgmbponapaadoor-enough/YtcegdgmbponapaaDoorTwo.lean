/-
  Two rows of bytes that the call makes side by side, and one more.
-/
import Derived.Test.YtcegdgmbponapaaDoorDeal
namespace Go.Proofs.YtcegdgmbponapaaDoor
open Go.RowKit

/-- Two values lie apart. -/
def Apart (v v' : Value) : Prop := v.ownBlock = none ∨ v'.ownBlock = none ∨ v.ownBlock ≠ v'.ownBlock

theorem Apart.symm {v v' : Value} (h : Apart v v') : Apart v' v := by
  rcases h with h | h | h
  · exact .inr (.inl h)
  · exact .inl h
  · exact .inr (.inr (fun e => h e.symm))

theorem Apart.left {v v' : Value} (h : Apart v v') : v.ownBlock = none ∨ v.ownBlock ≠ v'.ownBlock := by
  rcases h with h | h | h
  · exact .inl h
  · cases hv : v.ownBlock with
    | none => exact .inl rfl
    | some b => exact .inr (by rw [h]; simp)
  · exact .inr h

/-- Two owned rows of bytes, apart. -/
structure Two (w : World) (base : Nat) (vx vy : Value) (xs ys : List UInt8) : Prop where
  x : w.ownsRow base 5 1 vx xs.length (bs xs)
  y : w.ownsRow base 5 1 vy ys.length (bs ys)
  apart : Apart vx vy

theorem Two.symm {w : World} {base : Nat} {vx vy : Value} {xs ys : List UInt8} (h : Two w base vx vy xs ys) : Two w base vy vx ys xs := ⟨h.y, h.x, h.apart.symm⟩

theorem Two.start (w : World) (base : Nat) : Two w base (.slice none 0 0) (.slice none 0 0) [] [] := ⟨World.ownsRow_nil _ _ _ _, World.ownsRow_nil _ _ _ _, .inl rfl⟩

theorem bs_snoc (xs : List UInt8) (a : UInt8) : bs (xs ++ [a]) = bs xs ++ [.int .u8 a.toNat] := by simp [bs]

/-- Behind an append to the first. -/
theorem Two.push {w W w1 : World} {base g cap : Nat} {vx vy : Value} {xs ys : List UInt8} {a : UInt8} (h : Two w base vx vy xs ys) (hb : Below w.heap.size w W)
    (hown : w1.ownsRow base 5 1 (.slice (some ⟨g, 0, none⟩) (xs.length + 1) cap) (xs.length + 1) (bs xs ++ [.int .u8 a.toNat])) (hgrow : W.grownBy w1 vx.ownBlock) (hat : vx.ownBlock = some g ∨ g = W.heap.size) :
    Two w1 base (.slice (some ⟨g, 0, none⟩) (xs.length + 1) cap) vy (xs ++ [a]) ys := by
  refine ⟨by rw [bs_snoc, List.length_append]; exact hown, (owns_below h.y hb (Nat.le_refl _)).kept hgrow h.apart.symm.left, ?_⟩
  rcases hat with hat | hat
  · rcases h.apart with h1 | h1 | h1
    · rw [h1] at hat; cases hat
    · exact .inr (.inl h1)
    · exact .inr (.inr (by rw [hat] at h1; exact h1))
  · cases hy : vy.ownBlock with
    | none => exact .inr (.inl hy)
    | some b =>
      refine .inr (.inr ?_)
      rw [hy]
      intro e
      have e' : g = b := by simpa [Value.ownBlock] using e
      have := (h.y.lt b hy).2
      have := hb.size
      omega

theorem Two.len {w : World} {base : Nat} {vx vy : Value} {xs ys : List UInt8} (h : Two w base vx vy xs ys) : (∃ a c, vx = .slice a xs.length c ∧ Rd w a (bs xs)) ∧ (∃ a c, vy = .slice a ys.length c ∧ Rd w a (bs ys)) := ⟨owns_any_rd h.x, owns_any_rd h.y⟩

theorem Two.below {w w' : World} {base : Nat} {vx vy : Value} {xs ys : List UInt8} (h : Two w base vx vy xs ys) (hb : Below w.heap.size w w') : Two w' base vx vy xs ys := ⟨owns_below h.x hb (Nat.le_refl _), owns_below h.y hb (Nat.le_refl _), h.apart⟩

theorem owns_lower {w : World} {b b' n : Nat} {e : TypeId} {v : Value} {L : List Value} (h : w.ownsRow b e 1 v n L) (hb : b' ≤ b) : w.ownsRow b' e 1 v n L := by
  obtain ⟨h1, h2⟩ := h
  refine ⟨h1, ?_⟩
  rcases h2 with h2 | ⟨g, cap, cur, e1, e2, e3⟩
  · exact .inl h2
  · exact .inr ⟨g, cap, cur, e1, Nat.le_trans hb e2, e3⟩

/-- What reads as it was made, at its own address. -/
theorem owns_rd_at {w : World} {base n m c : Nat} {e : TypeId} {L : List Value} {a : Option Addr} (h : w.ownsRow base e 1 (.slice a m c) n L) : Rd w a L := by
  obtain ⟨a', c', e1, h1⟩ := owns_any_rd h
  injection e1 with e1 _ _
  subst e1
  exact h1

/-- A row that was there ahead of the world, and one that came behind it. -/
theorem apart_of_base {w W : World} {b B n m : Nat} {e e' : TypeId} {v v' : Value} {L L' : List Value} (h : w.ownsRow b e 1 v n L) (h' : W.ownsRow B e' 1 v' m L') (hB : w.heap.size ≤ B) : Apart v v' := by
  cases hv : v.ownBlock with
  | none => exact .inl hv
  | some g =>
    cases hv' : v'.ownBlock with
    | none => exact .inr (.inl hv')
    | some g' =>
      refine .inr (.inr ?_)
      rw [hv, hv']
      intro e1
      injection e1 with e1
      have h1 := (h.lt g hv).2
      have h2 := (h'.lt g' hv').1
      omega
end Go.Proofs.YtcegdgmbponapaaDoor
