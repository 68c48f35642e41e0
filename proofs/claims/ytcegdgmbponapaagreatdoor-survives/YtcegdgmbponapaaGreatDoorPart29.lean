/-
  Two rows of bytes that the call makes side by side, and one more.
  The elements are a field; polynomials through points.
-/
import Derived.Test.YtcegdgmbponapaaGreatDoorPart03
import Derived.Test.YtcegdgmbponapaaGreatDoorPart00
namespace Go.Proofs.YtcegdgmbponapaaGreatDoor
open Go.RowKit

/-- Two values lie apart. -/
def Apart (v v' : Value) : Prop := v.ownBlock = none ∨ v'.ownBlock = none ∨ v.ownBlock ≠ v'.ownBlock

theorem Apart.symm {v v' : Value} (h : Apart v v') : Apart v' v := by
  rcases h with h | h | h
  · exact .inr (.inl h)
  · exact .inl h
  · exact .inr (.inr (fun e => h e.symm))

theorem Apart.left {v v' : Value} (h : Apart v v') : v.ownBlock = none ∨ v.ownBlock ≠ v'.ownBlock := by
  rcases h with h | h | h
  · exact .inl h
  · cases hv : v.ownBlock with
    | none => exact .inl rfl
    | some b => exact .inr (by rw [h]; simp)
  · exact .inr h

/-- Two owned rows of bytes, apart. -/
structure Two (w : World) (base : Nat) (vx vy : Value) (xs ys : List UInt8) : Prop where
  x : w.ownsRow base 5 1 vx xs.length (bs xs)
  y : w.ownsRow base 5 1 vy ys.length (bs ys)
  apart : Apart vx vy

theorem Two.symm {w : World} {base : Nat} {vx vy : Value} {xs ys : List UInt8} (h : Two w base vx vy xs ys) : Two w base vy vx ys xs := ⟨h.y, h.x, h.apart.symm⟩

theorem Two.start (w : World) (base : Nat) : Two w base (.slice none 0 0) (.slice none 0 0) [] [] := ⟨World.ownsRow_nil _ _ _ _, World.ownsRow_nil _ _ _ _, .inl rfl⟩

theorem bs_snoc (xs : List UInt8) (a : UInt8) : bs (xs ++ [a]) = bs xs ++ [.int .u8 a.toNat] := by simp [bs]

/-- Behind an append to the first. -/
theorem Two.push {w W w1 : World} {base g cap : Nat} {vx vy : Value} {xs ys : List UInt8} {a : UInt8} (h : Two w base vx vy xs ys) (hb : Below w.heap.size w W)
    (hown : w1.ownsRow base 5 1 (.slice (some ⟨g, 0, none⟩) (xs.length + 1) cap) (xs.length + 1) (bs xs ++ [.int .u8 a.toNat])) (hgrow : W.grownBy w1 vx.ownBlock) (hat : vx.ownBlock = some g ∨ g = W.heap.size) :
    Two w1 base (.slice (some ⟨g, 0, none⟩) (xs.length + 1) cap) vy (xs ++ [a]) ys := by
  refine ⟨by rw [bs_snoc, List.length_append]; exact hown, (owns_below h.y hb (Nat.le_refl _)).kept hgrow h.apart.symm.left, ?_⟩
  rcases hat with hat | hat
  · rcases h.apart with h1 | h1 | h1
    · rw [h1] at hat; cases hat
    · exact .inr (.inl h1)
    · exact .inr (.inr (by rw [hat] at h1; exact h1))
  · cases hy : vy.ownBlock with
    | none => exact .inr (.inl hy)
    | some b =>
      refine .inr (.inr ?_)
      rw [hy]
      intro e
      have e' : g = b := by simpa [Value.ownBlock] using e
      have := (h.y.lt b hy).2
      have := hb.size
      omega

theorem Two.len {w : World} {base : Nat} {vx vy : Value} {xs ys : List UInt8} (h : Two w base vx vy xs ys) : (∃ a c, vx = .slice a xs.length c ∧ Rd w a (bs xs)) ∧ (∃ a c, vy = .slice a ys.length c ∧ Rd w a (bs ys)) := ⟨owns_any_rd h.x, owns_any_rd h.y⟩

theorem Two.below {w w' : World} {base : Nat} {vx vy : Value} {xs ys : List UInt8} (h : Two w base vx vy xs ys) (hb : Below w.heap.size w w') : Two w' base vx vy xs ys := ⟨owns_below h.x hb (Nat.le_refl _), owns_below h.y hb (Nat.le_refl _), h.apart⟩

theorem owns_lower {w : World} {b b' n : Nat} {e : TypeId} {v : Value} {L : List Value} (h : w.ownsRow b e 1 v n L) (hb : b' ≤ b) : w.ownsRow b' e 1 v n L := by
  obtain ⟨h1, h2⟩ := h
  refine ⟨h1, ?_⟩
  rcases h2 with h2 | ⟨g, cap, cur, e1, e2, e3⟩
  · exact .inl h2
  · exact .inr ⟨g, cap, cur, e1, Nat.le_trans hb e2, e3⟩

/-- What reads as it was made, at its own address. -/
theorem owns_rd_at {w : World} {base n m c : Nat} {e : TypeId} {L : List Value} {a : Option Addr} (h : w.ownsRow base e 1 (.slice a m c) n L) : Rd w a L := by
  obtain ⟨a', c', e1, h1⟩ := owns_any_rd h
  injection e1 with e1 _ _
  subst e1
  exact h1

/-- A row that was there ahead of the world, and one that came behind it. -/
theorem apart_of_base {w W : World} {b B n m : Nat} {e e' : TypeId} {v v' : Value} {L L' : List Value} (h : w.ownsRow b e 1 v n L) (h' : W.ownsRow B e' 1 v' m L') (hB : w.heap.size ≤ B) : Apart v v' := by
  cases hv : v.ownBlock with
  | none => exact .inl hv
  | some g =>
    cases hv' : v'.ownBlock with
    | none => exact .inr (.inl hv')
    | some g' =>
      refine .inr (.inr ?_)
      rw [hv, hv']
      intro e1
      injection e1 with e1
      have h1 := (h.lt g hv).2
      have h2 := (h'.lt g' hv').1
      omega
end Go.Proofs.YtcegdgmbponapaaGreatDoor

namespace Cof

theorem bit128 (b : UInt8) : b &&& 128 = 0 ∨ b &&& 128 = 128 := by
  have := all256 (fun b => b &&& 128 == 0 || b &&& 128 == 128) (by decide +kernel) b
  simpa using this

theorem tx_add (a b : UInt8) : tx (a ^^^ b) = tx a ^^^ tx b := by
  unfold tx
  rw [and_xor, UInt8.shiftLeft_xor]
  rcases bit128 a with h | h <;> rcases bit128 b with h' | h' <;> simp [h, h']
  · rw [UInt8.xor_assoc]
  · rw [UInt8.xor_assoc, UInt8.xor_comm (b <<< 1) 27, ← UInt8.xor_assoc]
  · rw [x4]; simp

theorem mulN_addL (n : Nat) (a b c : UInt8) : mulN n (a ^^^ b) c = mulN n a c ^^^ mulN n b c := by
  induction n generalizing a b c with
  | zero => simp [mulN]
  | succ n ih =>
    simp only [mulN, tx_add, ih]
    rw [x4]
    congr 1
    rcases bit01 c with h | h <;> simp [h]

theorem add_mul (a b c : UInt8) : mul (a ^^^ b) c = mul a c ^^^ mul b c := mulN_addL 8 a b c

/-- A function that takes sums to sums. -/
def Add (f : UInt8 → UInt8) : Prop := ∀ x y, f (x ^^^ y) = f x ^^^ f y

theorem Add.zero {f : UInt8 → UInt8} (h : Add f) : f 0 = 0 := by
  have := h 0 0
  simpa using this

theorem bits_of (x : UInt8) : ((((((((x &&& 1) ^^^ (x &&& 2)) ^^^ (x &&& 4)) ^^^ (x &&& 8)) ^^^ (x &&& 16)) ^^^ (x &&& 32)) ^^^ (x &&& 64)) ^^^ (x &&& 128)) = x := by
  have := all256 (fun x => ((((((((x &&& 1) ^^^ (x &&& 2)) ^^^ (x &&& 4)) ^^^ (x &&& 8)) ^^^ (x &&& 16)) ^^^ (x &&& 32)) ^^^ (x &&& 64)) ^^^ (x &&& 128)) == x) (by decide +kernel) x
  simpa using this

def pow2 : List UInt8 := [1, 2, 4, 8, 16, 32, 64, 128]

theorem bit_of (x k : UInt8) (hk : k ∈ pow2) : x &&& k = 0 ∨ x &&& k = k := by
  have := all256 (fun x => pow2.all fun k => x &&& k == 0 || x &&& k == k) (by decide +kernel) x
  have := List.all_eq_true.1 this k hk
  simpa using this

/-- Two such functions that agree at the bits agree. -/
theorem Add.ext {f g : UInt8 → UInt8} (hf : Add f) (hg : Add g) (h : ∀ k ∈ pow2, f k = g k) (x : UInt8) : f x = g x := by
  have hk : ∀ k ∈ pow2, f (x &&& k) = g (x &&& k) := by
    intro k hk
    rcases bit_of x k hk with h0 | h0
    · rw [h0, hf.zero, hg.zero]
    · rw [h0, h k hk]
  rw [← bits_of x]
  simp only [hf _ _, hg _ _]
  rw [hk 1 (by simp [pow2]), hk 2 (by simp [pow2]), hk 4 (by simp [pow2]), hk 8 (by simp [pow2]), hk 16 (by simp [pow2]), hk 32 (by simp [pow2]), hk 64 (by simp [pow2]), hk 128 (by simp [pow2])]

theorem mul_comm (a b : UInt8) : mul a b = mul b a := by
  refine Add.ext (f := fun a => mul a b) (g := fun a => mul b a) (fun x y => add_mul x y b) (fun x y => mul_add b x y) ?_ a
  intro k hk
  refine Add.ext (f := fun b => mul k b) (g := fun b => mul b k) (fun x y => mul_add k x y) (fun x y => add_mul x y k) ?_ b
  intro j hj
  have : (pow2.all fun k => pow2.all fun j => mul k j == mul j k) = true := by decide +kernel
  exact beq_iff_eq.1 (List.all_eq_true.1 (List.all_eq_true.1 this k hk) j hj)

theorem mul_assoc (a b c : UInt8) : mul (mul a b) c = mul a (mul b c) := by
  refine Add.ext (f := fun a => mul (mul a b) c) (g := fun a => mul a (mul b c)) (fun x y => by simp only [add_mul]) (fun x y => by simp only [add_mul]) ?_ a
  intro i hi
  refine Add.ext (f := fun b => mul (mul i b) c) (g := fun b => mul i (mul b c)) (fun x y => by simp only [mul_add, add_mul]) (fun x y => by simp only [add_mul, mul_add]) ?_ b
  intro j hj
  refine Add.ext (f := fun c => mul (mul i j) c) (g := fun c => mul i (mul j c)) (fun x y => by simp only [mul_add]) (fun x y => by simp only [mul_add]) ?_ c
  intro k hk
  have : (pow2.all fun i => pow2.all fun j => pow2.all fun k => mul (mul i j) k == mul i (mul j k)) = true := by decide +kernel
  exact beq_iff_eq.1 (List.all_eq_true.1 (List.all_eq_true.1 (List.all_eq_true.1 this i hi) j hj) k hk)

theorem mul_inv (a : UInt8) (h : a ≠ 0) : mul a (inv a) = 1 := by
  have := all256 (fun a => a == 0 || mul a (inv a) == 1) (by decide +kernel) a
  simpa [h] using this

theorem mul_one (a : UInt8) : mul a 1 = a := by rw [mul_comm, one_mul]

theorem mul_eq_zero {a b : UInt8} (h : mul a b = 0) (ha : a ≠ 0) : b = 0 := by
  have : mul (inv a) (mul a b) = b := by rw [← mul_assoc, mul_comm (inv a) a, mul_inv a ha, one_mul]
  rw [← this, h, mul_zero]

theorem xor_eq_zero {a b : UInt8} (h : a ^^^ b = 0) : a = b := by
  have : (a ^^^ b) ^^^ b = b := by rw [h]; simp
  rw [UInt8.xor_assoc] at this
  simpa using this

/-- Synthetic division by x - r: the quotient. -/
def quo (r : UInt8) : List UInt8 → List UInt8
  | [] => []
  | _ :: p => polyAt p r :: quo r p

theorem quo_length (r : UInt8) (p : List UInt8) : (quo r p).length = p.length := by
  induction p with
  | nil => rfl
  | cons c p ih => simp [quo, ih]

theorem polyAt_cons (c : UInt8) (p : List UInt8) (x : UInt8) : polyAt (c :: p) x = mul (polyAt p x) x ^^^ c := rfl

theorem quo_eq (p : List UInt8) (r x : UInt8) : polyAt p x ^^^ polyAt p r = mul (polyAt (quo r p) x) (x ^^^ r) := by
  induction p with
  | nil => simp [polyAt, quo, zero_mul]
  | cons c p ih =>
    rw [polyAt_cons, polyAt_cons, quo, polyAt_cons, x4]
    simp only [UInt8.xor_self, UInt8.xor_zero]
    rw [add_mul, mul_assoc, mul_comm x (x ^^^ r), ← mul_assoc, ← ih, add_mul, mul_add]
    generalize mul (polyAt p x) x = A
    generalize mul (polyAt p r) x = B
    generalize mul (polyAt p r) r = C
    rw [UInt8.xor_assoc, ← UInt8.xor_assoc B B C]
    simp

/-- The last coefficient of the quotient is nought: it is shorter by one. -/
theorem polyAt_dropLast (p : List UInt8) (x : UInt8) (h : p.getLast? = some 0) : polyAt p.dropLast x = polyAt p x := by
  induction p with
  | nil => rfl
  | cons c p ih =>
    cases p with
    | nil =>
      simp at h
      subst h
      simp [polyAt, zero_mul]
    | cons d q =>
      rw [List.dropLast_cons_cons, polyAt_cons, polyAt_cons, ih (by simpa using h)]

theorem quo_last (r c : UInt8) (p : List UInt8) : (quo r (c :: p)).getLast? = some 0 := by
  induction p generalizing c with
  | nil => simp [quo, polyAt]
  | cons d p ih =>
    have := ih d
    rw [quo, List.getLast?_cons]
    rw [this]; rfl

/-- A polynomial with as many roots as coefficients is nought everywhere. -/
theorem roots (xs : List UInt8) : ∀ (p : List UInt8), p.length ≤ xs.length → xs.Nodup → (∀ r ∈ xs, polyAt p r = 0) → ∀ x, polyAt p x = 0 := by
  induction xs with
  | nil =>
    intro p hl _ _ x
    have : p = [] := List.length_eq_zero_iff.1 (by simpa using hl)
    subst this; rfl
  | cons r xs ih =>
    intro p hl hn hr x
    cases p with
    | nil => rfl
    | cons c q =>
      have h0 : polyAt (c :: q) r = 0 := hr r (by simp)
      have hq : ∀ y, polyAt (quo r (c :: q)).dropLast y = 0 := by
        apply ih
        · rw [List.length_dropLast, quo_length]; simp at hl ⊢; omega
        · exact (List.nodup_cons.1 hn).2
        · intro s hs
          have hne : s ≠ r := by rintro rfl; exact (List.nodup_cons.1 hn).1 hs
          have e := quo_eq (c :: q) r s
          rw [h0, hr s (List.mem_cons_of_mem _ hs)] at e
          rw [polyAt_dropLast _ _ (quo_last r c q)]
          have hz : mul (s ^^^ r) (polyAt (quo r (c :: q)) s) = 0 := by rw [mul_comm, ← e]; simp
          exact mul_eq_zero hz (fun h => hne (xor_eq_zero h))
      have e := quo_eq (c :: q) r x
      rw [h0, ← polyAt_dropLast _ x (quo_last r c q), hq x, zero_mul] at e
      simpa using e
end Cof
