/-
  Polynomials through points: there is just one.
-/
import Derived.Test.YtcegdgmbponapaaDoorGF
import Derived.Test.YtcegdgmbponapaaDoorLinear
namespace Cof

theorem sumRow_nil (q : List UInt8) : sumRow [] q = q := by
  apply List.ext_getElem
  · simp [sumRow]
  · intro i h1 h2; simp [sumRow, h2]
theorem sumRow_nil' (p : List UInt8) : sumRow p [] = p := by
  apply List.ext_getElem
  · simp [sumRow]
  · intro i h1 h2; simp [sumRow, h2]
theorem sumRow_cons (a b : UInt8) (p q : List UInt8) : sumRow (a :: p) (b :: q) = (a ^^^ b) :: sumRow p q := by
  apply List.ext_getElem
  · simp [sumRow]
  · intro i h1 h2
    cases i with
    | zero => simp [sumRow]
    | succ i => simp [sumRow]

theorem polyAt_sum (p q : List UInt8) (x : UInt8) : polyAt (sumRow p q) x = polyAt p x ^^^ polyAt q x := by
  induction p generalizing q with
  | nil => rw [sumRow_nil]; simp [polyAt]
  | cons a p ih =>
    cases q with
    | nil => rw [sumRow_nil']; simp [polyAt]
    | cons b q => rw [sumRow_cons, polyAt_cons, polyAt_cons, polyAt_cons, ih, add_mul, x4]

theorem polyAt_scale (p : List UInt8) (f x : UInt8) : polyAt (scaleRow p f) x = mul f (polyAt p x) := by
  induction p with
  | nil => simp [scaleRow, polyAt, mul_zero]
  | cons c p ih =>
    have : scaleRow (c :: p) f = mul f c :: scaleRow p f := rfl
    rw [this, polyAt_cons, polyAt_cons, ih, mul_add, mul_assoc]

theorem polyAt_withRoot (p : List UInt8) (r x : UInt8) : polyAt (withRoot p r) x = mul (polyAt p x) (x ^^^ r) := by
  rw [withRoot, polyAt_sum, polyAt_scale, polyAt_cons, mul_add, mul_comm r]; simp

/-- The product of the x - xs_k but for the i-th, of the first k. -/
def prodTo (xs : List UInt8) (i : Nat) (x : UInt8) : Nat → UInt8
  | 0 => 1
  | k + 1 => if k = i then prodTo xs i x k else mul (prodTo xs i x k) (x ^^^ xs.getD k 0)

theorem basisTo_at (xs : List UInt8) (i k : Nat) (x : UInt8) : polyAt (basisTo xs i k) x = prodTo xs i x k := by
  induction k with
  | zero => simp [basisTo, prodTo, polyAt, zero_mul]
  | succ k ih =>
    simp only [basisTo, prodTo]
    split
    · exact ih
    · rw [polyAt_withRoot, ih]

theorem basis_val (xs : List UInt8) (i : Nat) (x : UInt8) : polyAt (basis xs i) x = mul (inv (prodTo xs i (xs.getD i 0) xs.length)) (prodTo xs i x xs.length) := by
  rw [basis, polyAt_scale, basisTo_at, basisTo_at]

theorem prodTo_zero (xs : List UInt8) (i j k : Nat) (hj : j < k) (hij : j ≠ i) : prodTo xs i (xs.getD j 0) k = 0 := by
  induction k with
  | zero => omega
  | succ k ih =>
    simp only [prodTo]
    by_cases hk : j = k
    · subst hk
      rw [if_neg hij]; simp [mul_zero]
    · have := ih (by omega)
      split
      · exact this
      · rw [this, zero_mul]

theorem prodTo_ne (xs : List UInt8) (i k : Nat) (x : UInt8) (h : ∀ j, j < k → j ≠ i → xs.getD j 0 ≠ x) : prodTo xs i x k ≠ 0 := by
  induction k with
  | zero => simp [prodTo]
  | succ k ih =>
    have h1 := ih (fun j hj => h j (by omega))
    simp only [prodTo]
    split
    · exact h1
    · rename_i hk
      intro hz
      have h2 := mul_eq_zero hz h1
      exact h k (by omega) hk (xor_eq_zero h2).symm

theorem nodup_ne {xs : List UInt8} (hn : xs.Nodup) {i j : Nat} (hi : i < xs.length) (hj : j < xs.length) (h : j ≠ i) : xs.getD j 0 ≠ xs.getD i 0 := by
  rw [List.getD_eq_getElem?_getD, List.getD_eq_getElem?_getD, List.getElem?_eq_getElem hi, List.getElem?_eq_getElem hj]
  simp only [Option.getD_some]
  intro he
  rcases Nat.lt_or_gt_of_ne h with h' | h'
  · exact List.pairwise_iff_getElem.1 hn j i hj hi h' he
  · exact List.pairwise_iff_getElem.1 hn i j hi hj h' he.symm

theorem basis_node (xs : List UInt8) (hn : xs.Nodup) (i j : Nat) (hi : i < xs.length) (hj : j < xs.length) : polyAt (basis xs i) (xs.getD j 0) = if i = j then 1 else 0 := by
  rw [basis_val]
  by_cases h : i = j
  · subst h
    rw [if_pos rfl, mul_comm, mul_inv]
    exact prodTo_ne xs i xs.length _ (fun j hj hne => nodup_ne hn hi hj hne)
  · rw [if_neg h, prodTo_zero xs i j xs.length hj (by omega), mul_zero]

theorem basisTo_length (xs : List UInt8) (i k : Nat) : (basisTo xs i k).length = if i < k then k else k + 1 := by
  induction k with
  | zero => simp [basisTo]
  | succ k ih =>
    simp only [basisTo]
    by_cases h : k = i
    · subst h; simp [ih]
    · rw [if_neg h, length_withRoot, ih]
      by_cases h2 : i < k
      · simp [h2, show i < k + 1 from by omega]
      · simp [h2, show ¬ i < k + 1 from by omega]

theorem basis_length (xs : List UInt8) (i : Nat) (hi : i < xs.length) : (basis xs i).length = xs.length := by
  rw [basis, length_scaleRow, basisTo_length, if_pos hi]

/-- The polynomial itself. -/
def comb (xs ys : List UInt8) : Nat → List UInt8
  | 0 => []
  | k + 1 => sumRow (comb xs ys k) (scaleRow (basis xs k) (ys.getD k 0))

theorem comb_at (xs ys : List UInt8) (k : Nat) (x : UInt8) : polyAt (comb xs ys k) x = csum (fun j => polyAt (basis xs j) x) (fun j => ys.getD j 0) k := by
  induction k with
  | zero => simp [comb, csum, polyAt]
  | succ k ih => rw [comb, polyAt_sum, polyAt_scale, ih, csum, mul_comm (ys.getD k 0)]

theorem comb_length (xs ys : List UInt8) (k : Nat) (hk : k ≤ xs.length) : (comb xs ys k).length ≤ xs.length := by
  induction k with
  | zero => simp [comb]
  | succ k ih =>
    rw [comb, length_sumRow, length_scaleRow, basis_length xs k (by omega)]
    exact Nat.max_le.2 ⟨ih (by omega), Nat.le_refl _⟩

/-- The value at x of the polynomial through points. -/
def itp (xs ys : List UInt8) (x : UInt8) : UInt8 := csum (fun j => polyAt (basis xs j) x) (fun j => ys.getD j 0) xs.length

theorem itp_poly (xs ys : List UInt8) (x : UInt8) : itp xs ys x = polyAt (comb xs ys xs.length) x := (comb_at xs ys xs.length x).symm

theorem itp_node (xs ys : List UInt8) (hn : xs.Nodup) (j : Nat) (hj : j < xs.length) : itp xs ys (xs.getD j 0) = ys.getD j 0 := by
  unfold itp
  rw [csum_congr (c' := fun i => if i = j then 1 else 0) (y' := fun i => ys.getD i 0) (fun i hi => ⟨basis_node xs hn i j hi hj, rfl⟩), csum_one, if_pos hj]

theorem poly_unique (xs p q : List UInt8) (hn : xs.Nodup) (hp : p.length ≤ xs.length) (hq : q.length ≤ xs.length) (h : ∀ j, j < xs.length → polyAt p (xs.getD j 0) = polyAt q (xs.getD j 0)) (x : UInt8) : polyAt p x = polyAt q x := by
  have := roots xs (sumRow p q) (by rw [length_sumRow]; exact Nat.max_le.2 ⟨hp, hq⟩) hn (by
    intro r hr
    obtain ⟨j, hj, rfl⟩ := List.mem_iff_getElem.1 hr
    rw [polyAt_sum]
    have := h j hj
    rw [List.getD_eq_getElem?_getD, List.getElem?_eq_getElem hj, Option.getD_some] at this
    rw [this]; simp) x
  rw [polyAt_sum] at this
  exact xor_eq_zero this

/-- Two sets of points on one polynomial. -/
theorem itp_transfer (xs ys xs' ys' : List UInt8) (hn : xs.Nodup) (hl : xs'.length = xs.length) (h : ∀ j, j < xs.length → itp xs' ys' (xs.getD j 0) = ys.getD j 0) (x : UInt8) : itp xs ys x = itp xs' ys' x := by
  rw [itp_poly, itp_poly]
  refine poly_unique xs _ _ hn (comb_length _ _ _ (Nat.le_refl _)) (by rw [← hl]; exact comb_length _ _ _ (Nat.le_refl _)) (fun j hj => ?_) x
  rw [← itp_poly, ← itp_poly, h j hj, itp_node xs ys hn j hj]
end Cof
