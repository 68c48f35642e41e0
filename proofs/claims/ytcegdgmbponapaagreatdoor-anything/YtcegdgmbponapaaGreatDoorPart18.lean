/-
  The elements are a field; polynomials through points.
  Polynomials through points: there is just one.
  The tape by which T - 1 stores are dealt what is wanted.
  Pieces put together: the polynomial through any of them, as many as the threshold, is the one that they were cut by. Nothing of the program in it.
-/
import Derived.Test.YtcegdgmbponapaaGreatDoorPart00
import Derived.Test.YtcegdgmbponapaaGreatDoorPart16
namespace Cof

def Add (f : UInt8 → UInt8) : Prop := ∀ x y, f (x ^^^ y) = f x ^^^ f y

end Cof

namespace Cof

def itp (xs ys : List UInt8) (x : UInt8) : UInt8 := csum (fun j => polyAt (basis xs j) x) (fun j => ys.getD j 0) xs.length

end Cof

theorem u8_int (x : Nat) (h : x < 256) : (x : Int) = ((UInt8.ofNat x).toNat : Int) := by simp [Nat.mod_eq_of_lt h]

namespace Cof

def wantX (l : Nat) (few : List Nat) : List UInt8 := run 128 l ++ few.map fun f => UInt8.ofNat (f + 1)
def wantY (v : List UInt8) (l u : Nat) (W : Nat → Nat → UInt8) (g : Nat) : List UInt8 := (List.range l).map (fun j => v.getD (g * l + j) 0) ++ (List.range u).map (W g)
def madeAt (v : List UInt8) (l : Nat) (few : List Nat) (W : Nat → Nat → UInt8) (g r : Nat) : UInt8 := itp (wantX l few) (wantY v l few.length W g) (UInt8.ofNat (192 + r))
def made (v : List UInt8) (l : Nat) (few : List Nat) (W : Nat → Nat → UInt8) : Nat → List UInt8
  | 0 => []
  | G + 1 => made v l few W G ++ (List.range few.length).map (madeAt v l few W G)

end Cof

namespace Cof

def gather (rows : List (List UInt8)) (G : Nat) : List UInt8 := (List.range G).flatMap fun g => rows.map fun r => r.getD g 0

def join (mode t l size : Nat) (ss : List Nat) (rows : List (List UInt8)) : List UInt8 :=
  (gather (carry (ss.map fun s => UInt8.ofNat (1 + s)) rows (groupAt mode t l)) (ngroups mode t l size)).take size

theorem gather_length (rows : List (List UInt8)) (G : Nat) : (gather rows G).length = G * rows.length := by
  induction G with
  | zero => simp [gather]
  | succ G ih =>
    have : gather rows (G + 1) = gather rows G ++ rows.map fun r => r.getD G 0 := by simp [gather, List.range_succ]
    rw [this, List.length_append, ih]; simp [Nat.succ_mul]

theorem groupAt_length (mode t l : Nat) : (groupAt mode t l).length = gsize mode t l := by
  unfold groupAt gsize; split <;> simp [length_run]
end Cof
