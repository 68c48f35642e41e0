/-
  Plain mathematics of the elements: products bit by bit, polynomials as lists. Nothing of the program in it.
-/
namespace Cof

/-- Times x. -/
def tx (a : UInt8) : UInt8 := if a &&& 128 == 0 then a <<< 1 else (a <<< 1) ^^^ 27

/-- The product by the n low bits of b. -/
def mulN : Nat → UInt8 → UInt8 → UInt8
  | 0, _, _ => 0
  | n + 1, a, b => (if b &&& 1 == 1 then a else 0) ^^^ mulN n (tx a) (b >>> 1)

def mul (a b : UInt8) : UInt8 := mulN 8 a b

def invN : Nat → UInt8 → UInt8 → UInt8
  | 0, p, _ => p
  | n + 1, p, s => invN n (mul p (mul s s)) (mul s s)

/-- The 254th power. -/
def inv (a : UInt8) : UInt8 := invN 7 1 a

/-- Of two rows: item by item, the shorter filled up. -/
def sumRow (a b : List UInt8) : List UInt8 := (List.range (max a.length b.length)).map fun i => a.getD i 0 ^^^ b.getD i 0

def scaleRow (r : List UInt8) (f : UInt8) : List UInt8 := r.map (mul f)

def fillRow (r : List UInt8) (n : Nat) : List UInt8 := (List.range n).map fun i => r.getD i 0

def polyAt (p : List UInt8) (x : UInt8) : UInt8 := p.foldr (fun c acc => mul acc x ^^^ c) 0

def withRoot (p : List UInt8) (r : UInt8) : List UInt8 := sumRow (0 :: p) (scaleRow p r)

def basisTo (xs : List UInt8) (one : Nat) : Nat → List UInt8
  | 0 => [1]
  | k + 1 => if k = one then basisTo xs one k else withRoot (basisTo xs one k) (xs.getD k 0)

def basis (xs : List UInt8) (one : Nat) : List UInt8 :=
  scaleRow (basisTo xs one xs.length) (inv (polyAt (basisTo xs one xs.length) (xs.getD one 0)))

def bases (xs : List UInt8) : List (List UInt8) := (List.range xs.length).map (basis xs)

/-- Of the k first rows. -/
def carryTo (frm : List UInt8) (rows : List (List UInt8)) (x : UInt8) : Nat → List UInt8
  | 0 => []
  | k + 1 => sumRow (carryTo frm rows x k) (scaleRow (rows.getD k []) (polyAt (basis frm k) x))

def carry (frm : List UInt8) (rows : List (List UInt8)) (to : List UInt8) : List (List UInt8) :=
  to.map fun x => carryTo frm rows x rows.length

/-- The j-th row of a text that is dealt, when k bytes are. -/
def dealRow (text : List UInt8) (width j k : Nat) : List UInt8 :=
  ((List.range k).filter fun i => i % width == j).map fun i => text.getD i 0

def deal (text : List UInt8) (width groups : Nat) : List (List UInt8) :=
  (List.range width).map fun j => dealRow text width j (width * groups)

def run (start count : Nat) : List UInt8 := (List.range count).map fun i => UInt8.ofNat (start + i)

/-- A plan's group and tape: where its polynomials are known. -/
def groupAt (mode t l : Nat) : List UInt8 := if mode = 1 then run 1 t else run 128 l
def tapeAt (mode t : Nat) : List UInt8 := if mode = 1 then [] else run 192 (t - 1)
def gsize (mode t l : Nat) : Nat := if mode = 1 then t else l
def tsize (mode t : Nat) : Nat := if mode = 1 then 0 else t - 1
def ngroups (mode t l size : Nat) : Nat := (size + gsize mode t l - 1) / gsize mode t l

/-- The pieces of a value. -/
def split (value : List UInt8) (mode t l n : Nat) (tape : List UInt8) : List (List UInt8) :=
  carry (groupAt mode t l ++ tapeAt mode t)
    (deal value (gsize mode t l) (ngroups mode t l value.length) ++ deal (tape.take (tsize mode t * ngroups mode t l value.length)) (tsize mode t) (ngroups mode t l value.length))
    (run 1 n)

/-! small laws -/
theorem all256 (p : UInt8 → Bool) (h : (List.range 256).all (fun n => p (UInt8.ofNat n)) = true) (a : UInt8) : p a = true := by
  have := List.all_eq_true.1 h a.toNat (List.mem_range.2 a.toNat_lt)
  simpa using this

theorem and_xor (b c d : UInt8) : (b ^^^ c) &&& d = (b &&& d) ^^^ (c &&& d) := by
  apply UInt8.toNat_inj.1
  simp [UInt8.toNat_and, UInt8.toNat_xor, Nat.and_xor_distrib_right]

theorem mulN_zero (n : Nat) (a : UInt8) : mulN n a 0 = 0 := by
  induction n generalizing a with
  | zero => rfl
  | succ n ih =>
    have h2 : (0 : UInt8) >>> 1 = 0 := by decide
    simp [mulN, h2, ih]

theorem bit01 (b : UInt8) : b &&& 1 = 0 ∨ b &&& 1 = 1 := by
  have := all256 (fun b => b &&& 1 == 0 || b &&& 1 == 1) (by decide +kernel) b
  simpa using this

theorem x4 (a b c d : UInt8) : (a ^^^ b) ^^^ (c ^^^ d) = (a ^^^ c) ^^^ (b ^^^ d) := by
  rw [UInt8.xor_assoc, UInt8.xor_assoc, ← UInt8.xor_assoc b c d, UInt8.xor_comm b c, UInt8.xor_assoc c b d]

theorem mulN_add (n : Nat) (a b c : UInt8) : mulN n a (b ^^^ c) = mulN n a b ^^^ mulN n a c := by
  induction n generalizing a b c with
  | zero => simp [mulN]
  | succ n ih =>
    simp only [mulN, UInt8.shiftRight_xor, ih, and_xor]
    rw [x4]
    congr 1
    rcases bit01 b with h | h <;> rcases bit01 c with h' | h' <;> simp [h, h']

theorem mul_add (a b c : UInt8) : mul a (b ^^^ c) = mul a b ^^^ mul a c := mulN_add 8 a b c
theorem mul_zero (a : UInt8) : mul a 0 = 0 := mulN_zero 8 a
theorem one_mul (a : UInt8) : mul 1 a = a := by
  have := all256 (fun a => mul 1 a == a) (by decide +kernel) a
  simpa using this
theorem zero_mul (a : UInt8) : mul 0 a = 0 := by
  have := all256 (fun a => mul 0 a == 0) (by decide +kernel) a
  simpa using this

theorem length_sumRow (a b : List UInt8) : (sumRow a b).length = max a.length b.length := by simp [sumRow]
theorem length_scaleRow (a : List UInt8) (f : UInt8) : (scaleRow a f).length = a.length := by simp [scaleRow]
theorem length_fillRow (a : List UInt8) (n : Nat) : (fillRow a n).length = n := by simp [fillRow]
theorem length_withRoot (p : List UInt8) (r : UInt8) : (withRoot p r).length = p.length + 1 := by simp [withRoot, length_sumRow, length_scaleRow]
theorem length_run (s c : Nat) : (run s c).length = c := by simp [run]
end Cof
