/-
  Two rows of bytes that the call makes side by side, and one more.
  The elements are a field; polynomials through points.
  Polynomials through points: there is just one.
-/
import Derived.Test.YtcegdgmbponapabGreatDoorPart02
import Derived.Test.YtcegdgmbponapabGreatDoorPart00
import Derived.Test.YtcegdgmbponapabGreatDoorPart21
namespace Go.Proofs.YtcegdgmbponapabGreatDoor
open Go.RowKit

/-- Two values lie apart. -/
def Apart (v v' : Value) : Prop := v.ownBlock = none ∨ v'.ownBlock = none ∨ v.ownBlock ≠ v'.ownBlock

theorem Apart.symm {v v' : Value} (h : Apart v v') : Apart v' v := by
  rcases h with h | h | h
  · exact .inr (.inl h)
  · exact .inl h
  · exact .inr (.inr (fun e => h e.symm))

theorem Apart.left {v v' : Value} (h : Apart v v') : v.ownBlock = none ∨ v.ownBlock ≠ v'.ownBlock := by
  rcases h with h | h | h
  · exact .inl h
  · cases hv : v.ownBlock with
    | none => exact .inl rfl
    | some b => exact .inr (by rw [h]; simp)
  · exact .inr h

/-- Two owned rows of bytes, apart. -/
structure Two (w : World) (base : Nat) (vx vy : Value) (xs ys : List UInt8) : Prop where
  x : w.ownsRow base 5 1 vx xs.length (bs xs)
  y : w.ownsRow base 5 1 vy ys.length (bs ys)
  apart : Apart vx vy

theorem Two.symm {w : World} {base : Nat} {vx vy : Value} {xs ys : List UInt8} (h : Two w base vx vy xs ys) : Two w base vy vx ys xs := ⟨h.y, h.x, h.apart.symm⟩

theorem Two.start (w : World) (base : Nat) : Two w base (.slice none 0 0) (.slice none 0 0) [] [] := ⟨World.ownsRow_nil _ _ _ _, World.ownsRow_nil _ _ _ _, .inl rfl⟩

theorem bs_snoc (xs : List UInt8) (a : UInt8) : bs (xs ++ [a]) = bs xs ++ [.int .u8 a.toNat] := by simp [bs]

/-- Behind an append to the first. -/
theorem Two.push {w W w1 : World} {base g cap : Nat} {vx vy : Value} {xs ys : List UInt8} {a : UInt8} (h : Two w base vx vy xs ys) (hb : Below w.heap.size w W)
    (hown : w1.ownsRow base 5 1 (.slice (some ⟨g, 0, none⟩) (xs.length + 1) cap) (xs.length + 1) (bs xs ++ [.int .u8 a.toNat])) (hgrow : W.grownBy w1 vx.ownBlock) (hat : vx.ownBlock = some g ∨ g = W.heap.size) :
    Two w1 base (.slice (some ⟨g, 0, none⟩) (xs.length + 1) cap) vy (xs ++ [a]) ys := by
  refine ⟨by rw [bs_snoc, List.length_append]; exact hown, (owns_below h.y hb (Nat.le_refl _)).kept hgrow h.apart.symm.left, ?_⟩
  rcases hat with hat | hat
  · rcases h.apart with h1 | h1 | h1
    · rw [h1] at hat; cases hat
    · exact .inr (.inl h1)
    · exact .inr (.inr (by rw [hat] at h1; exact h1))
  · cases hy : vy.ownBlock with
    | none => exact .inr (.inl hy)
    | some b =>
      refine .inr (.inr ?_)
      rw [hy]
      intro e
      have e' : g = b := by simpa [Value.ownBlock] using e
      have := (h.y.lt b hy).2
      have := hb.size
      omega

theorem Two.len {w : World} {base : Nat} {vx vy : Value} {xs ys : List UInt8} (h : Two w base vx vy xs ys) : (∃ a c, vx = .slice a xs.length c ∧ Rd w a (bs xs)) ∧ (∃ a c, vy = .slice a ys.length c ∧ Rd w a (bs ys)) := ⟨owns_any_rd h.x, owns_any_rd h.y⟩

theorem Two.below {w w' : World} {base : Nat} {vx vy : Value} {xs ys : List UInt8} (h : Two w base vx vy xs ys) (hb : Below w.heap.size w w') : Two w' base vx vy xs ys := ⟨owns_below h.x hb (Nat.le_refl _), owns_below h.y hb (Nat.le_refl _), h.apart⟩

theorem owns_lower {w : World} {b b' n : Nat} {e : TypeId} {v : Value} {L : List Value} (h : w.ownsRow b e 1 v n L) (hb : b' ≤ b) : w.ownsRow b' e 1 v n L := by
  obtain ⟨h1, h2⟩ := h
  refine ⟨h1, ?_⟩
  rcases h2 with h2 | ⟨g, cap, cur, e1, e2, e3⟩
  · exact .inl h2
  · exact .inr ⟨g, cap, cur, e1, Nat.le_trans hb e2, e3⟩

/-- What reads as it was made, at its own address. -/
theorem owns_rd_at {w : World} {base n m c : Nat} {e : TypeId} {L : List Value} {a : Option Addr} (h : w.ownsRow base e 1 (.slice a m c) n L) : Rd w a L := by
  obtain ⟨a', c', e1, h1⟩ := owns_any_rd h
  injection e1 with e1 _ _
  subst e1
  exact h1

/-- A row that was there ahead of the world, and one that came behind it. -/
theorem apart_of_base {w W : World} {b B n m : Nat} {e e' : TypeId} {v v' : Value} {L L' : List Value} (h : w.ownsRow b e 1 v n L) (h' : W.ownsRow B e' 1 v' m L') (hB : w.heap.size ≤ B) : Apart v v' := by
  cases hv : v.ownBlock with
  | none => exact .inl hv
  | some g =>
    cases hv' : v'.ownBlock with
    | none => exact .inr (.inl hv')
    | some g' =>
      refine .inr (.inr ?_)
      rw [hv, hv']
      intro e1
      injection e1 with e1
      have h1 := (h.lt g hv).2
      have h2 := (h'.lt g' hv').1
      omega
end Go.Proofs.YtcegdgmbponapabGreatDoor

namespace Cof

theorem bit128 (b : UInt8) : b &&& 128 = 0 ∨ b &&& 128 = 128 := by
  have := all256 (fun b => b &&& 128 == 0 || b &&& 128 == 128) (by decide +kernel) b
  simpa using this

theorem tx_add (a b : UInt8) : tx (a ^^^ b) = tx a ^^^ tx b := by
  unfold tx
  rw [and_xor, UInt8.shiftLeft_xor]
  rcases bit128 a with h | h <;> rcases bit128 b with h' | h' <;> simp [h, h']
  · rw [UInt8.xor_assoc]
  · rw [UInt8.xor_assoc, UInt8.xor_comm (b <<< 1) 27, ← UInt8.xor_assoc]
  · rw [x4]; simp

theorem mulN_addL (n : Nat) (a b c : UInt8) : mulN n (a ^^^ b) c = mulN n a c ^^^ mulN n b c := by
  induction n generalizing a b c with
  | zero => simp [mulN]
  | succ n ih =>
    simp only [mulN, tx_add, ih]
    rw [x4]
    congr 1
    rcases bit01 c with h | h <;> simp [h]

theorem add_mul (a b c : UInt8) : mul (a ^^^ b) c = mul a c ^^^ mul b c := mulN_addL 8 a b c

/-- A function that takes sums to sums. -/
def Add (f : UInt8 → UInt8) : Prop := ∀ x y, f (x ^^^ y) = f x ^^^ f y

theorem Add.zero {f : UInt8 → UInt8} (h : Add f) : f 0 = 0 := by
  have := h 0 0
  simpa using this

theorem bits_of (x : UInt8) : ((((((((x &&& 1) ^^^ (x &&& 2)) ^^^ (x &&& 4)) ^^^ (x &&& 8)) ^^^ (x &&& 16)) ^^^ (x &&& 32)) ^^^ (x &&& 64)) ^^^ (x &&& 128)) = x := by
  have := all256 (fun x => ((((((((x &&& 1) ^^^ (x &&& 2)) ^^^ (x &&& 4)) ^^^ (x &&& 8)) ^^^ (x &&& 16)) ^^^ (x &&& 32)) ^^^ (x &&& 64)) ^^^ (x &&& 128)) == x) (by decide +kernel) x
  simpa using this

def pow2 : List UInt8 := [1, 2, 4, 8, 16, 32, 64, 128]

theorem bit_of (x k : UInt8) (hk : k ∈ pow2) : x &&& k = 0 ∨ x &&& k = k := by
  have := all256 (fun x => pow2.all fun k => x &&& k == 0 || x &&& k == k) (by decide +kernel) x
  have := List.all_eq_true.1 this k hk
  simpa using this

/-- Two such functions that agree at the bits agree. -/
theorem Add.ext {f g : UInt8 → UInt8} (hf : Add f) (hg : Add g) (h : ∀ k ∈ pow2, f k = g k) (x : UInt8) : f x = g x := by
  have hk : ∀ k ∈ pow2, f (x &&& k) = g (x &&& k) := by
    intro k hk
    rcases bit_of x k hk with h0 | h0
    · rw [h0, hf.zero, hg.zero]
    · rw [h0, h k hk]
  rw [← bits_of x]
  simp only [hf _ _, hg _ _]
  rw [hk 1 (by simp [pow2]), hk 2 (by simp [pow2]), hk 4 (by simp [pow2]), hk 8 (by simp [pow2]), hk 16 (by simp [pow2]), hk 32 (by simp [pow2]), hk 64 (by simp [pow2]), hk 128 (by simp [pow2])]

theorem mul_comm (a b : UInt8) : mul a b = mul b a := by
  refine Add.ext (f := fun a => mul a b) (g := fun a => mul b a) (fun x y => add_mul x y b) (fun x y => mul_add b x y) ?_ a
  intro k hk
  refine Add.ext (f := fun b => mul k b) (g := fun b => mul b k) (fun x y => mul_add k x y) (fun x y => add_mul x y k) ?_ b
  intro j hj
  have : (pow2.all fun k => pow2.all fun j => mul k j == mul j k) = true := by decide +kernel
  exact beq_iff_eq.1 (List.all_eq_true.1 (List.all_eq_true.1 this k hk) j hj)

theorem mul_assoc (a b c : UInt8) : mul (mul a b) c = mul a (mul b c) := by
  refine Add.ext (f := fun a => mul (mul a b) c) (g := fun a => mul a (mul b c)) (fun x y => by simp only [add_mul]) (fun x y => by simp only [add_mul]) ?_ a
  intro i hi
  refine Add.ext (f := fun b => mul (mul i b) c) (g := fun b => mul i (mul b c)) (fun x y => by simp only [mul_add, add_mul]) (fun x y => by simp only [add_mul, mul_add]) ?_ b
  intro j hj
  refine Add.ext (f := fun c => mul (mul i j) c) (g := fun c => mul i (mul j c)) (fun x y => by simp only [mul_add]) (fun x y => by simp only [mul_add]) ?_ c
  intro k hk
  have : (pow2.all fun i => pow2.all fun j => pow2.all fun k => mul (mul i j) k == mul i (mul j k)) = true := by decide +kernel
  exact beq_iff_eq.1 (List.all_eq_true.1 (List.all_eq_true.1 (List.all_eq_true.1 this i hi) j hj) k hk)

theorem mul_inv (a : UInt8) (h : a ≠ 0) : mul a (inv a) = 1 := by
  have := all256 (fun a => a == 0 || mul a (inv a) == 1) (by decide +kernel) a
  simpa [h] using this

theorem mul_one (a : UInt8) : mul a 1 = a := by rw [mul_comm, one_mul]

theorem mul_eq_zero {a b : UInt8} (h : mul a b = 0) (ha : a ≠ 0) : b = 0 := by
  have : mul (inv a) (mul a b) = b := by rw [← mul_assoc, mul_comm (inv a) a, mul_inv a ha, one_mul]
  rw [← this, h, mul_zero]

theorem xor_eq_zero {a b : UInt8} (h : a ^^^ b = 0) : a = b := by
  have : (a ^^^ b) ^^^ b = b := by rw [h]; simp
  rw [UInt8.xor_assoc] at this
  simpa using this

/-- Synthetic division by x - r: the quotient. -/
def quo (r : UInt8) : List UInt8 → List UInt8
  | [] => []
  | _ :: p => polyAt p r :: quo r p

theorem quo_length (r : UInt8) (p : List UInt8) : (quo r p).length = p.length := by
  induction p with
  | nil => rfl
  | cons c p ih => simp [quo, ih]

theorem polyAt_cons (c : UInt8) (p : List UInt8) (x : UInt8) : polyAt (c :: p) x = mul (polyAt p x) x ^^^ c := rfl

theorem quo_eq (p : List UInt8) (r x : UInt8) : polyAt p x ^^^ polyAt p r = mul (polyAt (quo r p) x) (x ^^^ r) := by
  induction p with
  | nil => simp [polyAt, quo, zero_mul]
  | cons c p ih =>
    rw [polyAt_cons, polyAt_cons, quo, polyAt_cons, x4]
    simp only [UInt8.xor_self, UInt8.xor_zero]
    rw [add_mul, mul_assoc, mul_comm x (x ^^^ r), ← mul_assoc, ← ih, add_mul, mul_add]
    generalize mul (polyAt p x) x = A
    generalize mul (polyAt p r) x = B
    generalize mul (polyAt p r) r = C
    rw [UInt8.xor_assoc, ← UInt8.xor_assoc B B C]
    simp

/-- The last coefficient of the quotient is nought: it is shorter by one. -/
theorem polyAt_dropLast (p : List UInt8) (x : UInt8) (h : p.getLast? = some 0) : polyAt p.dropLast x = polyAt p x := by
  induction p with
  | nil => rfl
  | cons c p ih =>
    cases p with
    | nil =>
      simp at h
      subst h
      simp [polyAt, zero_mul]
    | cons d q =>
      rw [List.dropLast_cons_cons, polyAt_cons, polyAt_cons, ih (by simpa using h)]

theorem quo_last (r c : UInt8) (p : List UInt8) : (quo r (c :: p)).getLast? = some 0 := by
  induction p generalizing c with
  | nil => simp [quo, polyAt]
  | cons d p ih =>
    have := ih d
    rw [quo, List.getLast?_cons]
    rw [this]; rfl

/-- A polynomial with as many roots as coefficients is nought everywhere. -/
theorem roots (xs : List UInt8) : ∀ (p : List UInt8), p.length ≤ xs.length → xs.Nodup → (∀ r ∈ xs, polyAt p r = 0) → ∀ x, polyAt p x = 0 := by
  induction xs with
  | nil =>
    intro p hl _ _ x
    have : p = [] := List.length_eq_zero_iff.1 (by simpa using hl)
    subst this; rfl
  | cons r xs ih =>
    intro p hl hn hr x
    cases p with
    | nil => rfl
    | cons c q =>
      have h0 : polyAt (c :: q) r = 0 := hr r (by simp)
      have hq : ∀ y, polyAt (quo r (c :: q)).dropLast y = 0 := by
        apply ih
        · rw [List.length_dropLast, quo_length]; simp at hl ⊢; omega
        · exact (List.nodup_cons.1 hn).2
        · intro s hs
          have hne : s ≠ r := by rintro rfl; exact (List.nodup_cons.1 hn).1 hs
          have e := quo_eq (c :: q) r s
          rw [h0, hr s (List.mem_cons_of_mem _ hs)] at e
          rw [polyAt_dropLast _ _ (quo_last r c q)]
          have hz : mul (s ^^^ r) (polyAt (quo r (c :: q)) s) = 0 := by rw [mul_comm, ← e]; simp
          exact mul_eq_zero hz (fun h => hne (xor_eq_zero h))
      have e := quo_eq (c :: q) r x
      rw [h0, ← polyAt_dropLast _ x (quo_last r c q), hq x, zero_mul] at e
      simpa using e
end Cof

namespace Cof

theorem sumRow_nil (q : List UInt8) : sumRow [] q = q := by
  apply List.ext_getElem
  · simp [sumRow]
  · intro i h1 h2; simp [sumRow, h2]
theorem sumRow_nil' (p : List UInt8) : sumRow p [] = p := by
  apply List.ext_getElem
  · simp [sumRow]
  · intro i h1 h2; simp [sumRow, h2]
theorem sumRow_cons (a b : UInt8) (p q : List UInt8) : sumRow (a :: p) (b :: q) = (a ^^^ b) :: sumRow p q := by
  apply List.ext_getElem
  · simp [sumRow]
  · intro i h1 h2
    cases i with
    | zero => simp [sumRow]
    | succ i => simp [sumRow]

theorem polyAt_sum (p q : List UInt8) (x : UInt8) : polyAt (sumRow p q) x = polyAt p x ^^^ polyAt q x := by
  induction p generalizing q with
  | nil => rw [sumRow_nil]; simp [polyAt]
  | cons a p ih =>
    cases q with
    | nil => rw [sumRow_nil']; simp [polyAt]
    | cons b q => rw [sumRow_cons, polyAt_cons, polyAt_cons, polyAt_cons, ih, add_mul, x4]

theorem polyAt_scale (p : List UInt8) (f x : UInt8) : polyAt (scaleRow p f) x = mul f (polyAt p x) := by
  induction p with
  | nil => simp [scaleRow, polyAt, mul_zero]
  | cons c p ih =>
    have : scaleRow (c :: p) f = mul f c :: scaleRow p f := rfl
    rw [this, polyAt_cons, polyAt_cons, ih, mul_add, mul_assoc]

theorem polyAt_withRoot (p : List UInt8) (r x : UInt8) : polyAt (withRoot p r) x = mul (polyAt p x) (x ^^^ r) := by
  rw [withRoot, polyAt_sum, polyAt_scale, polyAt_cons, mul_add, mul_comm r]; simp

/-- The product of the x - xs_k but for the i-th, of the first k. -/
def prodTo (xs : List UInt8) (i : Nat) (x : UInt8) : Nat → UInt8
  | 0 => 1
  | k + 1 => if k = i then prodTo xs i x k else mul (prodTo xs i x k) (x ^^^ xs.getD k 0)

theorem basisTo_at (xs : List UInt8) (i k : Nat) (x : UInt8) : polyAt (basisTo xs i k) x = prodTo xs i x k := by
  induction k with
  | zero => simp [basisTo, prodTo, polyAt, zero_mul]
  | succ k ih =>
    simp only [basisTo, prodTo]
    split
    · exact ih
    · rw [polyAt_withRoot, ih]

theorem basis_val (xs : List UInt8) (i : Nat) (x : UInt8) : polyAt (basis xs i) x = mul (inv (prodTo xs i (xs.getD i 0) xs.length)) (prodTo xs i x xs.length) := by
  rw [basis, polyAt_scale, basisTo_at, basisTo_at]

theorem prodTo_zero (xs : List UInt8) (i j k : Nat) (hj : j < k) (hij : j ≠ i) : prodTo xs i (xs.getD j 0) k = 0 := by
  induction k with
  | zero => omega
  | succ k ih =>
    simp only [prodTo]
    by_cases hk : j = k
    · subst hk
      rw [if_neg hij]; simp [mul_zero]
    · have := ih (by omega)
      split
      · exact this
      · rw [this, zero_mul]

theorem prodTo_ne (xs : List UInt8) (i k : Nat) (x : UInt8) (h : ∀ j, j < k → j ≠ i → xs.getD j 0 ≠ x) : prodTo xs i x k ≠ 0 := by
  induction k with
  | zero => simp [prodTo]
  | succ k ih =>
    have h1 := ih (fun j hj => h j (by omega))
    simp only [prodTo]
    split
    · exact h1
    · rename_i hk
      intro hz
      have h2 := mul_eq_zero hz h1
      exact h k (by omega) hk (xor_eq_zero h2).symm

theorem nodup_ne {xs : List UInt8} (hn : xs.Nodup) {i j : Nat} (hi : i < xs.length) (hj : j < xs.length) (h : j ≠ i) : xs.getD j 0 ≠ xs.getD i 0 := by
  rw [List.getD_eq_getElem?_getD, List.getD_eq_getElem?_getD, List.getElem?_eq_getElem hi, List.getElem?_eq_getElem hj]
  simp only [Option.getD_some]
  intro he
  rcases Nat.lt_or_gt_of_ne h with h' | h'
  · exact List.pairwise_iff_getElem.1 hn j i hj hi h' he
  · exact List.pairwise_iff_getElem.1 hn i j hi hj h' he.symm

theorem basis_node (xs : List UInt8) (hn : xs.Nodup) (i j : Nat) (hi : i < xs.length) (hj : j < xs.length) : polyAt (basis xs i) (xs.getD j 0) = if i = j then 1 else 0 := by
  rw [basis_val]
  by_cases h : i = j
  · subst h
    rw [if_pos rfl, mul_comm, mul_inv]
    exact prodTo_ne xs i xs.length _ (fun j hj hne => nodup_ne hn hi hj hne)
  · rw [if_neg h, prodTo_zero xs i j xs.length hj (by omega), mul_zero]

theorem basisTo_length (xs : List UInt8) (i k : Nat) : (basisTo xs i k).length = if i < k then k else k + 1 := by
  induction k with
  | zero => simp [basisTo]
  | succ k ih =>
    simp only [basisTo]
    by_cases h : k = i
    · subst h; simp [ih]
    · rw [if_neg h, length_withRoot, ih]
      by_cases h2 : i < k
      · simp [h2, show i < k + 1 from by omega]
      · simp [h2, show ¬ i < k + 1 from by omega]

theorem basis_length (xs : List UInt8) (i : Nat) (hi : i < xs.length) : (basis xs i).length = xs.length := by
  rw [basis, length_scaleRow, basisTo_length, if_pos hi]

/-- The polynomial itself. -/
def comb (xs ys : List UInt8) : Nat → List UInt8
  | 0 => []
  | k + 1 => sumRow (comb xs ys k) (scaleRow (basis xs k) (ys.getD k 0))

theorem comb_at (xs ys : List UInt8) (k : Nat) (x : UInt8) : polyAt (comb xs ys k) x = csum (fun j => polyAt (basis xs j) x) (fun j => ys.getD j 0) k := by
  induction k with
  | zero => simp [comb, csum, polyAt]
  | succ k ih => rw [comb, polyAt_sum, polyAt_scale, ih, csum, mul_comm (ys.getD k 0)]

theorem comb_length (xs ys : List UInt8) (k : Nat) (hk : k ≤ xs.length) : (comb xs ys k).length ≤ xs.length := by
  induction k with
  | zero => simp [comb]
  | succ k ih =>
    rw [comb, length_sumRow, length_scaleRow, basis_length xs k (by omega)]
    exact Nat.max_le.2 ⟨ih (by omega), Nat.le_refl _⟩

/-- The value at x of the polynomial through points. -/
def itp (xs ys : List UInt8) (x : UInt8) : UInt8 := csum (fun j => polyAt (basis xs j) x) (fun j => ys.getD j 0) xs.length

theorem itp_poly (xs ys : List UInt8) (x : UInt8) : itp xs ys x = polyAt (comb xs ys xs.length) x := (comb_at xs ys xs.length x).symm

theorem itp_node (xs ys : List UInt8) (hn : xs.Nodup) (j : Nat) (hj : j < xs.length) : itp xs ys (xs.getD j 0) = ys.getD j 0 := by
  unfold itp
  rw [csum_congr (c' := fun i => if i = j then 1 else 0) (y' := fun i => ys.getD i 0) (fun i hi => ⟨basis_node xs hn i j hi hj, rfl⟩), csum_one, if_pos hj]

theorem poly_unique (xs p q : List UInt8) (hn : xs.Nodup) (hp : p.length ≤ xs.length) (hq : q.length ≤ xs.length) (h : ∀ j, j < xs.length → polyAt p (xs.getD j 0) = polyAt q (xs.getD j 0)) (x : UInt8) : polyAt p x = polyAt q x := by
  have := roots xs (sumRow p q) (by rw [length_sumRow]; exact Nat.max_le.2 ⟨hp, hq⟩) hn (by
    intro r hr
    obtain ⟨j, hj, rfl⟩ := List.mem_iff_getElem.1 hr
    rw [polyAt_sum]
    have := h j hj
    rw [List.getD_eq_getElem?_getD, List.getElem?_eq_getElem hj, Option.getD_some] at this
    rw [this]; simp) x
  rw [polyAt_sum] at this
  exact xor_eq_zero this

/-- Two sets of points on one polynomial. -/
theorem itp_transfer (xs ys xs' ys' : List UInt8) (hn : xs.Nodup) (hl : xs'.length = xs.length) (h : ∀ j, j < xs.length → itp xs' ys' (xs.getD j 0) = ys.getD j 0) (x : UInt8) : itp xs ys x = itp xs' ys' x := by
  rw [itp_poly, itp_poly]
  refine poly_unique xs _ _ hn (comb_length _ _ _ (Nat.le_refl _)) (by rw [← hl]; exact comb_length _ _ _ (Nat.le_refl _)) (fun j hj => ?_) x
  rw [← itp_poly, ← itp_poly, h j hj, itp_node xs ys hn j hj]
end Cof

theorem u8_int (x : Nat) (h : x < 256) : (x : Int) = ((UInt8.ofNat x).toNat : Int) := by simp [Nat.mod_eq_of_lt h]
