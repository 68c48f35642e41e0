/-
  The elements are a field; polynomials through points.
  Polynomials through points: there is just one.
  The tape by which T - 1 stores are dealt what is wanted.
  Pieces put together: the polynomial through any of them, as many as the threshold, is the one that they were cut by. Nothing of the program in it.
-/
import Derived.Test.YtcegdgmbponapaaGreatDoorPart00
import Derived.Test.YtcegdgmbponapaaGreatDoorPart16
namespace Cof

theorem bit128 (b : UInt8) : b &&& 128 = 0 ∨ b &&& 128 = 128 := by
  have := all256 (fun b => b &&& 128 == 0 || b &&& 128 == 128) (by decide +kernel) b
  simpa using this

theorem tx_add (a b : UInt8) : tx (a ^^^ b) = tx a ^^^ tx b := by
  unfold tx
  rw [and_xor, UInt8.shiftLeft_xor]
  rcases bit128 a with h | h <;> rcases bit128 b with h' | h' <;> simp [h, h']
  · rw [UInt8.xor_assoc]
  · rw [UInt8.xor_assoc, UInt8.xor_comm (b <<< 1) 27, ← UInt8.xor_assoc]
  · rw [x4]; simp

theorem mulN_addL (n : Nat) (a b c : UInt8) : mulN n (a ^^^ b) c = mulN n a c ^^^ mulN n b c := by
  induction n generalizing a b c with
  | zero => simp [mulN]
  | succ n ih =>
    simp only [mulN, tx_add, ih]
    rw [x4]
    congr 1
    rcases bit01 c with h | h <;> simp [h]

theorem add_mul (a b c : UInt8) : mul (a ^^^ b) c = mul a c ^^^ mul b c := mulN_addL 8 a b c

def Add (f : UInt8 → UInt8) : Prop := ∀ x y, f (x ^^^ y) = f x ^^^ f y

theorem bits_of (x : UInt8) : ((((((((x &&& 1) ^^^ (x &&& 2)) ^^^ (x &&& 4)) ^^^ (x &&& 8)) ^^^ (x &&& 16)) ^^^ (x &&& 32)) ^^^ (x &&& 64)) ^^^ (x &&& 128)) = x := by
  have := all256 (fun x => ((((((((x &&& 1) ^^^ (x &&& 2)) ^^^ (x &&& 4)) ^^^ (x &&& 8)) ^^^ (x &&& 16)) ^^^ (x &&& 32)) ^^^ (x &&& 64)) ^^^ (x &&& 128)) == x) (by decide +kernel) x
  simpa using this

def pow2 : List UInt8 := [1, 2, 4, 8, 16, 32, 64, 128]

theorem bit_of (x k : UInt8) (hk : k ∈ pow2) : x &&& k = 0 ∨ x &&& k = k := by
  have := all256 (fun x => pow2.all fun k => x &&& k == 0 || x &&& k == k) (by decide +kernel) x
  have := List.all_eq_true.1 this k hk
  simpa using this

theorem Add.ext {f g : UInt8 → UInt8} (hf : Add f) (hg : Add g) (h : ∀ k ∈ pow2, f k = g k) (x : UInt8) : f x = g x := by
  have hk : ∀ k ∈ pow2, f (x &&& k) = g (x &&& k) := by
    intro k hk
    rcases bit_of x k hk with h0 | h0
    · rw [h0, hf.zero, hg.zero]
    · rw [h0, h k hk]
  rw [← bits_of x]
  simp only [hf _ _, hg _ _]
  rw [hk 1 (by simp [pow2]), hk 2 (by simp [pow2]), hk 4 (by simp [pow2]), hk 8 (by simp [pow2]), hk 16 (by simp [pow2]), hk 32 (by simp [pow2]), hk 64 (by simp [pow2]), hk 128 (by simp [pow2])]

theorem mul_comm (a b : UInt8) : mul a b = mul b a := by
  refine Add.ext (f := fun a => mul a b) (g := fun a => mul b a) (fun x y => add_mul x y b) (fun x y => mul_add b x y) ?_ a
  intro k hk
  refine Add.ext (f := fun b => mul k b) (g := fun b => mul b k) (fun x y => mul_add k x y) (fun x y => add_mul x y k) ?_ b
  intro j hj
  have : (pow2.all fun k => pow2.all fun j => mul k j == mul j k) = true := by decide +kernel
  exact beq_iff_eq.1 (List.all_eq_true.1 (List.all_eq_true.1 this k hk) j hj)

theorem mul_one (a : UInt8) : mul a 1 = a := by rw [mul_comm, one_mul]

end Cof

namespace Cof

def itp (xs ys : List UInt8) (x : UInt8) : UInt8 := csum (fun j => polyAt (basis xs j) x) (fun j => ys.getD j 0) xs.length

end Cof

theorem u8_int (x : Nat) (h : x < 256) : (x : Int) = ((UInt8.ofNat x).toNat : Int) := by simp [Nat.mod_eq_of_lt h]

namespace Cof

def wantX (l : Nat) (few : List Nat) : List UInt8 := run 128 l ++ few.map fun f => UInt8.ofNat (f + 1)
def wantY (v : List UInt8) (l u : Nat) (W : Nat → Nat → UInt8) (g : Nat) : List UInt8 := (List.range l).map (fun j => v.getD (g * l + j) 0) ++ (List.range u).map (W g)
def madeAt (v : List UInt8) (l : Nat) (few : List Nat) (W : Nat → Nat → UInt8) (g r : Nat) : UInt8 := itp (wantX l few) (wantY v l few.length W g) (UInt8.ofNat (192 + r))
def made (v : List UInt8) (l : Nat) (few : List Nat) (W : Nat → Nat → UInt8) : Nat → List UInt8
  | 0 => []
  | G + 1 => made v l few W G ++ (List.range few.length).map (madeAt v l few W G)

end Cof

namespace Cof

def gather (rows : List (List UInt8)) (G : Nat) : List UInt8 := (List.range G).flatMap fun g => rows.map fun r => r.getD g 0

def join (mode t l size : Nat) (ss : List Nat) (rows : List (List UInt8)) : List UInt8 :=
  (gather (carry (ss.map fun s => UInt8.ofNat (1 + s)) rows (groupAt mode t l)) (ngroups mode t l size)).take size

theorem gather_length (rows : List (List UInt8)) (G : Nat) : (gather rows G).length = G * rows.length := by
  induction G with
  | zero => simp [gather]
  | succ G ih =>
    have : gather rows (G + 1) = gather rows G ++ rows.map fun r => r.getD G 0 := by simp [gather, List.range_succ]
    rw [this, List.length_append, ih]; simp [Nat.succ_mul]

theorem groupAt_length (mode t l : Nat) : (groupAt mode t l).length = gsize mode t l := by
  unfold groupAt gsize; split <;> simp [length_run]
end Cof
