/-
  Polynomials through points: there is just one.
  The tape by which T - 1 stores are dealt what is wanted.
-/
import Derived.Test.YtcegdgmbponapaaGreatDoorPart29
import Derived.Test.YtcegdgmbponapaaGreatDoorPart27
namespace Cof

theorem sumRow_nil (q : List UInt8) : sumRow [] q = q := by
  apply List.ext_getElem
  · simp [sumRow]
  · intro i h1 h2; simp [sumRow, h2]
theorem sumRow_nil' (p : List UInt8) : sumRow p [] = p := by
  apply List.ext_getElem
  · simp [sumRow]
  · intro i h1 h2; simp [sumRow, h2]
theorem sumRow_cons (a b : UInt8) (p q : List UInt8) : sumRow (a :: p) (b :: q) = (a ^^^ b) :: sumRow p q := by
  apply List.ext_getElem
  · simp [sumRow]
  · intro i h1 h2
    cases i with
    | zero => simp [sumRow]
    | succ i => simp [sumRow]

theorem polyAt_sum (p q : List UInt8) (x : UInt8) : polyAt (sumRow p q) x = polyAt p x ^^^ polyAt q x := by
  induction p generalizing q with
  | nil => rw [sumRow_nil]; simp [polyAt]
  | cons a p ih =>
    cases q with
    | nil => rw [sumRow_nil']; simp [polyAt]
    | cons b q => rw [sumRow_cons, polyAt_cons, polyAt_cons, polyAt_cons, ih, add_mul, x4]

theorem polyAt_scale (p : List UInt8) (f x : UInt8) : polyAt (scaleRow p f) x = mul f (polyAt p x) := by
  induction p with
  | nil => simp [scaleRow, polyAt, mul_zero]
  | cons c p ih =>
    have : scaleRow (c :: p) f = mul f c :: scaleRow p f := rfl
    rw [this, polyAt_cons, polyAt_cons, ih, mul_add, mul_assoc]

theorem polyAt_withRoot (p : List UInt8) (r x : UInt8) : polyAt (withRoot p r) x = mul (polyAt p x) (x ^^^ r) := by
  rw [withRoot, polyAt_sum, polyAt_scale, polyAt_cons, mul_add, mul_comm r]; simp

/-- The product of the x - xs_k but for the i-th, of the first k. -/
def prodTo (xs : List UInt8) (i : Nat) (x : UInt8) : Nat → UInt8
  | 0 => 1
  | k + 1 => if k = i then prodTo xs i x k else mul (prodTo xs i x k) (x ^^^ xs.getD k 0)

theorem basisTo_at (xs : List UInt8) (i k : Nat) (x : UInt8) : polyAt (basisTo xs i k) x = prodTo xs i x k := by
  induction k with
  | zero => simp [basisTo, prodTo, polyAt, zero_mul]
  | succ k ih =>
    simp only [basisTo, prodTo]
    split
    · exact ih
    · rw [polyAt_withRoot, ih]

theorem basis_val (xs : List UInt8) (i : Nat) (x : UInt8) : polyAt (basis xs i) x = mul (inv (prodTo xs i (xs.getD i 0) xs.length)) (prodTo xs i x xs.length) := by
  rw [basis, polyAt_scale, basisTo_at, basisTo_at]

theorem prodTo_zero (xs : List UInt8) (i j k : Nat) (hj : j < k) (hij : j ≠ i) : prodTo xs i (xs.getD j 0) k = 0 := by
  induction k with
  | zero => omega
  | succ k ih =>
    simp only [prodTo]
    by_cases hk : j = k
    · subst hk
      rw [if_neg hij]; simp [mul_zero]
    · have := ih (by omega)
      split
      · exact this
      · rw [this, zero_mul]

theorem prodTo_ne (xs : List UInt8) (i k : Nat) (x : UInt8) (h : ∀ j, j < k → j ≠ i → xs.getD j 0 ≠ x) : prodTo xs i x k ≠ 0 := by
  induction k with
  | zero => simp [prodTo]
  | succ k ih =>
    have h1 := ih (fun j hj => h j (by omega))
    simp only [prodTo]
    split
    · exact h1
    · rename_i hk
      intro hz
      have h2 := mul_eq_zero hz h1
      exact h k (by omega) hk (xor_eq_zero h2).symm

theorem nodup_ne {xs : List UInt8} (hn : xs.Nodup) {i j : Nat} (hi : i < xs.length) (hj : j < xs.length) (h : j ≠ i) : xs.getD j 0 ≠ xs.getD i 0 := by
  rw [List.getD_eq_getElem?_getD, List.getD_eq_getElem?_getD, List.getElem?_eq_getElem hi, List.getElem?_eq_getElem hj]
  simp only [Option.getD_some]
  intro he
  rcases Nat.lt_or_gt_of_ne h with h' | h'
  · exact List.pairwise_iff_getElem.1 hn j i hj hi h' he
  · exact List.pairwise_iff_getElem.1 hn i j hi hj h' he.symm

theorem basis_node (xs : List UInt8) (hn : xs.Nodup) (i j : Nat) (hi : i < xs.length) (hj : j < xs.length) : polyAt (basis xs i) (xs.getD j 0) = if i = j then 1 else 0 := by
  rw [basis_val]
  by_cases h : i = j
  · subst h
    rw [if_pos rfl, mul_comm, mul_inv]
    exact prodTo_ne xs i xs.length _ (fun j hj hne => nodup_ne hn hi hj hne)
  · rw [if_neg h, prodTo_zero xs i j xs.length hj (by omega), mul_zero]

theorem basisTo_length (xs : List UInt8) (i k : Nat) : (basisTo xs i k).length = if i < k then k else k + 1 := by
  induction k with
  | zero => simp [basisTo]
  | succ k ih =>
    simp only [basisTo]
    by_cases h : k = i
    · subst h; simp [ih]
    · rw [if_neg h, length_withRoot, ih]
      by_cases h2 : i < k
      · simp [h2, show i < k + 1 from by omega]
      · simp [h2, show ¬ i < k + 1 from by omega]

theorem basis_length (xs : List UInt8) (i : Nat) (hi : i < xs.length) : (basis xs i).length = xs.length := by
  rw [basis, length_scaleRow, basisTo_length, if_pos hi]

/-- The polynomial itself. -/
def comb (xs ys : List UInt8) : Nat → List UInt8
  | 0 => []
  | k + 1 => sumRow (comb xs ys k) (scaleRow (basis xs k) (ys.getD k 0))

theorem comb_at (xs ys : List UInt8) (k : Nat) (x : UInt8) : polyAt (comb xs ys k) x = csum (fun j => polyAt (basis xs j) x) (fun j => ys.getD j 0) k := by
  induction k with
  | zero => simp [comb, csum, polyAt]
  | succ k ih => rw [comb, polyAt_sum, polyAt_scale, ih, csum, mul_comm (ys.getD k 0)]

theorem comb_length (xs ys : List UInt8) (k : Nat) (hk : k ≤ xs.length) : (comb xs ys k).length ≤ xs.length := by
  induction k with
  | zero => simp [comb]
  | succ k ih =>
    rw [comb, length_sumRow, length_scaleRow, basis_length xs k (by omega)]
    exact Nat.max_le.2 ⟨ih (by omega), Nat.le_refl _⟩

/-- The value at x of the polynomial through points. -/
def itp (xs ys : List UInt8) (x : UInt8) : UInt8 := csum (fun j => polyAt (basis xs j) x) (fun j => ys.getD j 0) xs.length

theorem itp_poly (xs ys : List UInt8) (x : UInt8) : itp xs ys x = polyAt (comb xs ys xs.length) x := (comb_at xs ys xs.length x).symm

theorem itp_node (xs ys : List UInt8) (hn : xs.Nodup) (j : Nat) (hj : j < xs.length) : itp xs ys (xs.getD j 0) = ys.getD j 0 := by
  unfold itp
  rw [csum_congr (c' := fun i => if i = j then 1 else 0) (y' := fun i => ys.getD i 0) (fun i hi => ⟨basis_node xs hn i j hi hj, rfl⟩), csum_one, if_pos hj]

theorem poly_unique (xs p q : List UInt8) (hn : xs.Nodup) (hp : p.length ≤ xs.length) (hq : q.length ≤ xs.length) (h : ∀ j, j < xs.length → polyAt p (xs.getD j 0) = polyAt q (xs.getD j 0)) (x : UInt8) : polyAt p x = polyAt q x := by
  have := roots xs (sumRow p q) (by rw [length_sumRow]; exact Nat.max_le.2 ⟨hp, hq⟩) hn (by
    intro r hr
    obtain ⟨j, hj, rfl⟩ := List.mem_iff_getElem.1 hr
    rw [polyAt_sum]
    have := h j hj
    rw [List.getD_eq_getElem?_getD, List.getElem?_eq_getElem hj, Option.getD_some] at this
    rw [this]; simp) x
  rw [polyAt_sum] at this
  exact xor_eq_zero this

/-- Two sets of points on one polynomial. -/
theorem itp_transfer (xs ys xs' ys' : List UInt8) (hn : xs.Nodup) (hl : xs'.length = xs.length) (h : ∀ j, j < xs.length → itp xs' ys' (xs.getD j 0) = ys.getD j 0) (x : UInt8) : itp xs ys x = itp xs' ys' x := by
  rw [itp_poly, itp_poly]
  refine poly_unique xs _ _ hn (comb_length _ _ _ (Nat.le_refl _)) (by rw [← hl]; exact comb_length _ _ _ (Nat.le_refl _)) (fun j hj => ?_) x
  rw [← itp_poly, ← itp_poly, h j hj, itp_node xs ys hn j hj]
end Cof

theorem u8_int (x : Nat) (h : x < 256) : (x : Int) = ((UInt8.ofNat x).toNat : Int) := by simp [Nat.mod_eq_of_lt h]

namespace Cof

/-- The points that are wanted of one group: where, and what. -/
def wantX (l : Nat) (few : List Nat) : List UInt8 := run 128 l ++ few.map fun f => UInt8.ofNat (f + 1)
def wantY (v : List UInt8) (l u : Nat) (W : Nat → Nat → UInt8) (g : Nat) : List UInt8 := (List.range l).map (fun j => v.getD (g * l + j) 0) ++ (List.range u).map (W g)
def madeAt (v : List UInt8) (l : Nat) (few : List Nat) (W : Nat → Nat → UInt8) (g r : Nat) : UInt8 := itp (wantX l few) (wantY v l few.length W g) (UInt8.ofNat (192 + r))
def made (v : List UInt8) (l : Nat) (few : List Nat) (W : Nat → Nat → UInt8) : Nat → List UInt8
  | 0 => []
  | G + 1 => made v l few W G ++ (List.range few.length).map (madeAt v l few W G)

theorem made_length (v : List UInt8) (l : Nat) (few : List Nat) (W : Nat → Nat → UInt8) (G : Nat) : (made v l few W G).length = G * few.length := by
  induction G with
  | zero => simp [made]
  | succ G ih => rw [made, List.length_append, ih]; simp [Nat.succ_mul]

theorem made_get (v : List UInt8) (l : Nat) (few : List Nat) (W : Nat → Nat → UInt8) (G g r : Nat) (hg : g < G) (hr : r < few.length) : (made v l few W G).getD (g * few.length + r) 0 = madeAt v l few W g r := by
  induction G with
  | zero => omega
  | succ G ih =>
    rw [made, List.getD_eq_getElem?_getD]
    by_cases h : g < G
    · rw [List.getElem?_append_left, ← List.getD_eq_getElem?_getD, ih h]
      rw [made_length]
      have := Nat.mul_le_mul_right few.length (show g + 1 ≤ G by omega)
      rw [Nat.succ_mul] at this
      omega
    · have : g = G := by omega
      subst this
      rw [List.getElem?_append_right (by rw [made_length]; omega), made_length]
      simp [hr]

theorem run_get (s c j : Nat) (h : j < c) : (run s c).getD j 0 = UInt8.ofNat (s + j) := by simp [run, h]

theorem u8_inj {a b : Nat} (ha : a < 256) (hb : b < 256) (h : UInt8.ofNat a = UInt8.ofNat b) : a = b := by
  have := congrArg UInt8.toNat h
  simpa [Nat.mod_eq_of_lt ha, Nat.mod_eq_of_lt hb] using this

theorem run_nodup (s c : Nat) (h : s + c ≤ 256) : (run s c).Nodup := by
  rw [run]
  refine List.Pairwise.map _ (R := fun a b => a ≠ b ∧ a < c ∧ b < c) ?_ ?_
  · rintro a b ⟨h1, h2, h3⟩ he
    exact h1 (by have := u8_inj (by omega) (by omega) he; omega)
  · refine List.Pairwise.imp_of_mem ?_ (List.nodup_range (n := c))
    intro a b ha hb hab
    exact ⟨hab, List.mem_range.1 ha, List.mem_range.1 hb⟩

theorem nodup_app {a b : List UInt8} (ha : a.Nodup) (hb : b.Nodup) (h : ∀ x ∈ a, ∀ y ∈ b, x ≠ y) : (a ++ b).Nodup := by
  rw [List.nodup_append]; exact ⟨ha, hb, h⟩

theorem few_nodup (few : List Nat) (hn : few.Nodup) (h8 : ∀ f ∈ few, f < 8) : (few.map fun f => UInt8.ofNat (f + 1)).Nodup := by
  refine List.Pairwise.map _ (R := fun a b => a ≠ b ∧ a < 8 ∧ b < 8) ?_ ?_
  · rintro a b ⟨h1, h2, h3⟩ he
    exact h1 (by have := u8_inj (by omega) (by omega) he; omega)
  · refine List.Pairwise.imp_of_mem ?_ hn
    intro a b ha hb hab
    exact ⟨hab, h8 a ha, h8 b hb⟩

theorem wantX_nodup (l : Nat) (few : List Nat) (hl : l ≤ 8) (hn : few.Nodup) (h8 : ∀ f ∈ few, f < 8) : (wantX l few).Nodup := by
  refine nodup_app (run_nodup 128 l (by omega)) (few_nodup few hn h8) ?_
  intro x hx y hy e
  obtain ⟨j, hj, rfl⟩ := List.mem_map.1 hx
  obtain ⟨f, hf, rfl⟩ := List.mem_map.1 hy
  have := u8_inj (by have := List.mem_range.1 hj; omega) (by have := h8 f hf; omega) e
  have := h8 f hf
  omega

theorem frm_nodup (l u : Nat) (hl : l ≤ 8) (hu : u ≤ 8) : (run 128 l ++ run 192 u).Nodup := by
  refine nodup_app (run_nodup 128 l (by omega)) (run_nodup 192 u (by omega)) ?_
  intro x hx y hy e
  obtain ⟨j, hj, rfl⟩ := List.mem_map.1 hx
  obtain ⟨r, hr, rfl⟩ := List.mem_map.1 hy
  have hj' := List.mem_range.1 hj
  have hr' := List.mem_range.1 hr
  have := u8_inj (by omega) (by omega) e
  omega

theorem app_get_left (a b : List UInt8) (j : Nat) (h : j < a.length) : (a ++ b).getD j 0 = a.getD j 0 := by
  rw [List.getD_eq_getElem?_getD, List.getElem?_append_left h, ← List.getD_eq_getElem?_getD]
theorem app_get_right (a b : List UInt8) (j : Nat) (h : a.length ≤ j) : (a ++ b).getD j 0 = b.getD (j - a.length) 0 := by
  rw [List.getD_eq_getElem?_getD, List.getElem?_append_right h, ← List.getD_eq_getElem?_getD]

/-- A piece by the polynomial through what is known. -/
theorem pieceAt_itp (v tape : List UInt8) (t l i g : Nat) :
    pieceAt v tape 0 t l i g = itp (run 128 l ++ run 192 (t - 1)) ((List.range l).map (fun j => v.getD (g * l + j) 0) ++ (List.range (t - 1)).map (fun r => tape.getD (g * (t - 1) + r) 0)) (UInt8.ofNat (1 + i)) := by
  unfold pieceAt itp
  have e1 : (run 128 l ++ run 192 (t - 1)).length = l + (t - 1) := by simp [length_run]
  rw [e1]
  show csum (coef 0 t l i) (knownAt v tape l (t - 1) g) (l + (t - 1)) = _
  apply csum_congr
  intro j hj
  refine ⟨rfl, ?_⟩
  unfold knownAt
  by_cases h : j < l
  · rw [if_pos h, app_get_left _ _ _ (by simpa using h)]; simp [h]
  · rw [if_neg h, app_get_right _ _ _ (by simp; omega)]
    have : j - l < t - 1 := by omega
    simp [this]

/-- What is wanted is dealt. -/
theorem dealt_wanted (v tape : List UInt8) (t l : Nat) (few : List Nat) (W : Nat → Nat → UInt8) (g i : Nat) (ht : few.length = t - 1) (ht1 : 1 ≤ t) (ht8 : t ≤ 8) (hl : l ≤ 8) (hn : few.Nodup) (h8 : ∀ f ∈ few, f < 8) (hi : i < few.length)
    (htape : ∀ r, r < t - 1 → tape.getD (g * (t - 1) + r) 0 = madeAt v l few W g r) : pieceAt v tape 0 t l (few.getD i 0) g = W g i := by
  rw [pieceAt_itp v tape t l _ g]
  have hx : (wantX l few).length = (run 128 l ++ run 192 (t - 1)).length := by simp [wantX, length_run, ht]
  rw [itp_transfer (run 128 l ++ run 192 (t - 1)) _ (wantX l few) (wantY v l few.length W g) (frm_nodup l (t - 1) hl (by omega)) hx ?_ (UInt8.ofNat (1 + few.getD i 0))]
  · have hnode : UInt8.ofNat (1 + few.getD i 0) = (wantX l few).getD (l + i) 0 := by
      rw [wantX, app_get_right _ _ _ (by rw [length_run]; omega), length_run]
      simp [hi]
      exact UInt8.add_comm _ _
    rw [hnode, itp_node _ _ (wantX_nodup l few hl hn h8) _ (by simp [wantX, length_run]; omega), wantY, app_get_right _ _ _ (by simp)]
    simp [hi]
  · intro j hj
    have hj' : j < l + (t - 1) := by simpa [length_run] using hj
    by_cases h : j < l
    · have e1 : (run 128 l ++ run 192 (t - 1)).getD j 0 = (wantX l few).getD j 0 := by
        rw [app_get_left _ _ _ (by rw [length_run]; exact h), wantX, app_get_left _ _ _ (by rw [length_run]; exact h)]
      rw [e1, itp_node _ _ (wantX_nodup l few hl hn h8) _ (by simp [wantX, length_run]; omega), wantY, app_get_left _ _ _ (by simpa using h), app_get_left _ _ _ (by simpa using h)]
    · rw [app_get_right (run 128 l) _ _ (by rw [length_run]; omega), length_run, run_get 192 (t - 1) (j - l) (by omega), app_get_right _ _ _ (by simp; omega)]
      have hr : j - l < t - 1 := by omega
      simp only [List.length_map, List.length_range]
      rw [List.getD_eq_getElem?_getD, List.getElem?_map, List.getElem?_range hr]
      simp only [Option.map_some, Option.getD_some]
      rw [htape _ hr]; rfl

/-- Another tape deals them otherwise. -/
theorem dealt_otherwise (v tape tape' : List UInt8) (t l : Nat) (few : List Nat) (g : Nat) (ht : few.length = t - 1) (ht1 : 1 ≤ t) (ht8 : t ≤ 8) (hl : l ≤ 8) (hn : few.Nodup) (h8 : ∀ f ∈ few, f < 8)
    (h : ∀ i, i < few.length → pieceAt v tape 0 t l (few.getD i 0) g = pieceAt v tape' 0 t l (few.getD i 0) g) (r : Nat) (hr : r < t - 1) : tape.getD (g * (t - 1) + r) 0 = tape'.getD (g * (t - 1) + r) 0 := by
  have key : ∀ x, itp (run 128 l ++ run 192 (t - 1)) ((List.range l).map (fun j => v.getD (g * l + j) 0) ++ (List.range (t - 1)).map (fun r => tape.getD (g * (t - 1) + r) 0)) x = itp (run 128 l ++ run 192 (t - 1)) ((List.range l).map (fun j => v.getD (g * l + j) 0) ++ (List.range (t - 1)).map (fun r => tape'.getD (g * (t - 1) + r) 0)) x := by
    intro x
    have hx : (wantX l few).length = (run 128 l ++ run 192 (t - 1)).length := by simp [wantX, length_run, ht]
    rw [itp_poly, itp_poly]
    refine poly_unique (wantX l few) _ _ (wantX_nodup l few hl hn h8) (by rw [hx]; exact comb_length _ _ _ (Nat.le_refl _)) (by rw [hx]; exact comb_length _ _ _ (Nat.le_refl _)) (fun j hj => ?_) x
    rw [← itp_poly, ← itp_poly]
    by_cases hjl : j < l
    · have e1 : (wantX l few).getD j 0 = (run 128 l ++ run 192 (t - 1)).getD j 0 := by
        rw [app_get_left _ _ _ (by rw [length_run]; exact hjl), wantX, app_get_left _ _ _ (by rw [length_run]; exact hjl)]
      rw [e1, itp_node _ _ (frm_nodup l (t - 1) hl (by omega)) _ (by simp [length_run]; omega), itp_node _ _ (frm_nodup l (t - 1) hl (by omega)) _ (by simp [length_run]; omega), app_get_left _ _ _ (by simpa using hjl), app_get_left _ _ _ (by simpa using hjl)]
    · have hi : j - l < few.length := by simp [wantX, length_run] at hj; omega
      have e1 : (wantX l few).getD j 0 = UInt8.ofNat (1 + few.getD (j - l) 0) := by
        rw [wantX, app_get_right _ _ _ (by rw [length_run]; omega), length_run]
        simp [hi]
        exact UInt8.add_comm _ _
      rw [e1, ← pieceAt_itp v tape t l _ g, ← pieceAt_itp v tape' t l _ g]
      exact h _ hi
  have hk := key ((run 128 l ++ run 192 (t - 1)).getD (l + r) 0)
  rw [itp_node _ _ (frm_nodup l (t - 1) hl (by omega)) _ (by simp [length_run]; omega), itp_node _ _ (frm_nodup l (t - 1) hl (by omega)) _ (by simp [length_run]; omega), app_get_right _ _ _ (by simp), app_get_right _ _ _ (by simp)] at hk
  simpa [hr] using hk

theorem tsize0 (t : Nat) : tsize 0 t = t - 1 := rfl

/-- The tape that is made deals every store what it is to have. -/
theorem made_dealt (v : List UInt8) (t l n G : Nat) (few : List Nat) (W : Nat → Nat → UInt8) (i : Nat) (hG : G = ngroups 0 t l v.length) (ht : few.length = t - 1) (ht1 : 1 ≤ t) (ht8 : t ≤ 8) (hl1 : 1 ≤ l) (hl : l ≤ 8) (hn : few.Nodup) (h8 : ∀ f ∈ few, f < 8)
    (hin : ∀ f ∈ few, f < n) (hi : i < few.length) : (split v 0 t l n (made v l few W G)).getD (few.getD i 0) [] = (List.range G).map fun g => W g i := by
  have hfi : few.getD i 0 = few[i] := by simp [hi]
  have hlen : (made v l few W G).length = tsize 0 t * ngroups 0 t l v.length := by rw [made_length, tsize0, ← hG, ht, Nat.mul_comm]
  rw [split_row v _ 0 t l n _ (by rw [hfi]; exact hin _ (List.getElem_mem hi)) (by show 0 < l; exact hl1) hlen, ← hG]
  apply List.map_congr_left
  intro g hg
  refine dealt_wanted v _ t l few W g i ht ht1 ht8 hl hn h8 hi (fun r hr => ?_)
  rw [← ht]
  exact made_get v l few W G g r (List.mem_range.1 hg) (by rw [ht]; exact hr)

/-- Another byte of it: some store is dealt otherwise. -/
theorem other_dealt (v tape : List UInt8) (t l n G : Nat) (few : List Nat) (p : Nat) (x : UInt8) (hG : G = ngroups 0 t l v.length) (ht : few.length = t - 1) (ht1 : 1 ≤ t) (ht8 : t ≤ 8) (hl1 : 1 ≤ l) (hl : l ≤ 8) (hn : few.Nodup) (h8 : ∀ f ∈ few, f < 8)
    (hin : ∀ f ∈ few, f < n) (htl : tape.length = G * few.length) (hp : p < tape.length) (hx : tape.getD p 0 ≠ x) :
    ∃ i, i < few.length ∧ (split v 0 t l n (tape.set p x)).getD (few.getD i 0) [] ≠ (split v 0 t l n tape).getD (few.getD i 0) [] := by
  refine Classical.byContradiction fun hno => ?_
  have hall : ∀ i, i < few.length → (split v 0 t l n (tape.set p x)).getD (few.getD i 0) [] = (split v 0 t l n tape).getD (few.getD i 0) [] := fun i hi => Classical.byContradiction fun h => hno ⟨i, hi, h⟩
  have hlen : tape.length = tsize 0 t * ngroups 0 t l v.length := by rw [tsize0, ← hG, htl, ht, Nat.mul_comm]
  have hpos : 0 < few.length := by
    rcases Nat.eq_zero_or_pos few.length with h | h
    · rw [h, Nat.mul_zero] at htl; omega
    · exact h
  have hgl : p / few.length < G := by rw [Nat.div_lt_iff_lt_mul hpos, ← htl]; exact hp
  have hrl : p % few.length < few.length := Nat.mod_lt _ hpos
  have hpe : p / few.length * few.length + p % few.length = p := by rw [Nat.mul_comm]; exact Nat.div_add_mod _ _
  have key := dealt_otherwise v tape (tape.set p x) t l few (p / few.length) ht ht1 ht8 hl hn h8 (fun i hi => ?_) (p % few.length) (by rw [← ht]; exact hrl)
  · rw [← ht, hpe] at key
    apply hx
    rw [key]
    simp [hp]
  · have hfi : few.getD i 0 = few[i] := by simp [hi]
    have hf : few.getD i 0 < n := by rw [hfi]; exact hin _ (List.getElem_mem hi)
    have h1 := hall i hi
    rw [split_row v _ 0 t l n _ hf (by show 0 < l; exact hl1) (by rw [List.length_set]; exact hlen), split_row v _ 0 t l n _ hf (by show 0 < l; exact hl1) hlen, ← hG] at h1
    have h2 := congrArg (fun r => r[p / few.length]?) h1
    simp [hgl] at h2
    simpa using h2.symm
end Cof
