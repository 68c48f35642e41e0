/-
  Plain mathematics of the elements: products bit by bit, polynomials as lists. Nothing of the program in it.
  The walks of package field: timesX, Times, Inverse.
-/
import Derived.Test.YtcegdgmbponapaaGreatDoorProg
import Derived.WalkKit
import Derived.WalkSpells
import Derived.WalkLawsBesides
namespace Cof

/-- Times x. -/
def tx (a : UInt8) : UInt8 := if a &&& 128 == 0 then a <<< 1 else (a <<< 1) ^^^ 27

/-- The product by the n low bits of b. -/
def mulN : Nat → UInt8 → UInt8 → UInt8
  | 0, _, _ => 0
  | n + 1, a, b => (if b &&& 1 == 1 then a else 0) ^^^ mulN n (tx a) (b >>> 1)

def mul (a b : UInt8) : UInt8 := mulN 8 a b

def invN : Nat → UInt8 → UInt8 → UInt8
  | 0, p, _ => p
  | n + 1, p, s => invN n (mul p (mul s s)) (mul s s)

/-- The 254th power. -/
def inv (a : UInt8) : UInt8 := invN 7 1 a

/-- Of two rows: item by item, the shorter filled up. -/
def sumRow (a b : List UInt8) : List UInt8 := (List.range (max a.length b.length)).map fun i => a.getD i 0 ^^^ b.getD i 0

def scaleRow (r : List UInt8) (f : UInt8) : List UInt8 := r.map (mul f)

def fillRow (r : List UInt8) (n : Nat) : List UInt8 := (List.range n).map fun i => r.getD i 0

def polyAt (p : List UInt8) (x : UInt8) : UInt8 := p.foldr (fun c acc => mul acc x ^^^ c) 0

def withRoot (p : List UInt8) (r : UInt8) : List UInt8 := sumRow (0 :: p) (scaleRow p r)

def basisTo (xs : List UInt8) (one : Nat) : Nat → List UInt8
  | 0 => [1]
  | k + 1 => if k = one then basisTo xs one k else withRoot (basisTo xs one k) (xs.getD k 0)

def basis (xs : List UInt8) (one : Nat) : List UInt8 :=
  scaleRow (basisTo xs one xs.length) (inv (polyAt (basisTo xs one xs.length) (xs.getD one 0)))

def bases (xs : List UInt8) : List (List UInt8) := (List.range xs.length).map (basis xs)

/-- Of the k first rows. -/
def carryTo (frm : List UInt8) (rows : List (List UInt8)) (x : UInt8) : Nat → List UInt8
  | 0 => []
  | k + 1 => sumRow (carryTo frm rows x k) (scaleRow (rows.getD k []) (polyAt (basis frm k) x))

def carry (frm : List UInt8) (rows : List (List UInt8)) (to : List UInt8) : List (List UInt8) :=
  to.map fun x => carryTo frm rows x rows.length

/-- The j-th row of a text that is dealt, when k bytes are. -/
def dealRow (text : List UInt8) (width j k : Nat) : List UInt8 :=
  ((List.range k).filter fun i => i % width == j).map fun i => text.getD i 0

def deal (text : List UInt8) (width groups : Nat) : List (List UInt8) :=
  (List.range width).map fun j => dealRow text width j (width * groups)

def run (start count : Nat) : List UInt8 := (List.range count).map fun i => UInt8.ofNat (start + i)

/-- A plan's group and tape: where its polynomials are known. -/
def groupAt (mode t l : Nat) : List UInt8 := if mode = 1 then run 1 t else run 128 l
def tapeAt (mode t : Nat) : List UInt8 := if mode = 1 then [] else run 192 (t - 1)
def gsize (mode t l : Nat) : Nat := if mode = 1 then t else l
def tsize (mode t : Nat) : Nat := if mode = 1 then 0 else t - 1
def ngroups (mode t l size : Nat) : Nat := (size + gsize mode t l - 1) / gsize mode t l

/-- The pieces of a value. -/
def split (value : List UInt8) (mode t l n : Nat) (tape : List UInt8) : List (List UInt8) :=
  carry (groupAt mode t l ++ tapeAt mode t)
    (deal value (gsize mode t l) (ngroups mode t l value.length) ++ deal (tape.take (tsize mode t * ngroups mode t l value.length)) (tsize mode t) (ngroups mode t l value.length))
    (run 1 n)

/-! small laws -/
theorem all256 (p : UInt8 → Bool) (h : (List.range 256).all (fun n => p (UInt8.ofNat n)) = true) (a : UInt8) : p a = true := by
  have := List.all_eq_true.1 h a.toNat (List.mem_range.2 a.toNat_lt)
  simpa using this

theorem and_xor (b c d : UInt8) : (b ^^^ c) &&& d = (b &&& d) ^^^ (c &&& d) := by
  apply UInt8.toNat_inj.1
  simp [UInt8.toNat_and, UInt8.toNat_xor, Nat.and_xor_distrib_right]

theorem mulN_zero (n : Nat) (a : UInt8) : mulN n a 0 = 0 := by
  induction n generalizing a with
  | zero => rfl
  | succ n ih =>
    have h2 : (0 : UInt8) >>> 1 = 0 := by decide
    simp [mulN, h2, ih]

theorem bit01 (b : UInt8) : b &&& 1 = 0 ∨ b &&& 1 = 1 := by
  have := all256 (fun b => b &&& 1 == 0 || b &&& 1 == 1) (by decide +kernel) b
  simpa using this

theorem x4 (a b c d : UInt8) : (a ^^^ b) ^^^ (c ^^^ d) = (a ^^^ c) ^^^ (b ^^^ d) := by
  rw [UInt8.xor_assoc, UInt8.xor_assoc, ← UInt8.xor_assoc b c d, UInt8.xor_comm b c, UInt8.xor_assoc c b d]

theorem mulN_add (n : Nat) (a b c : UInt8) : mulN n a (b ^^^ c) = mulN n a b ^^^ mulN n a c := by
  induction n generalizing a b c with
  | zero => simp [mulN]
  | succ n ih =>
    simp only [mulN, UInt8.shiftRight_xor, ih, and_xor]
    rw [x4]
    congr 1
    rcases bit01 b with h | h <;> rcases bit01 c with h' | h' <;> simp [h, h']

theorem mul_add (a b c : UInt8) : mul a (b ^^^ c) = mul a b ^^^ mul a c := mulN_add 8 a b c
theorem mul_zero (a : UInt8) : mul a 0 = 0 := mulN_zero 8 a
theorem one_mul (a : UInt8) : mul 1 a = a := by
  have := all256 (fun a => mul 1 a == a) (by decide +kernel) a
  simpa using this
theorem zero_mul (a : UInt8) : mul 0 a = 0 := by
  have := all256 (fun a => mul 0 a == 0) (by decide +kernel) a
  simpa using this

theorem length_sumRow (a b : List UInt8) : (sumRow a b).length = max a.length b.length := by simp [sumRow]
theorem length_scaleRow (a : List UInt8) (f : UInt8) : (scaleRow a f).length = a.length := by simp [scaleRow]
theorem length_fillRow (a : List UInt8) (n : Nat) : (fillRow a n).length = n := by simp [fillRow]
theorem length_withRoot (p : List UInt8) (r : UInt8) : (withRoot p r).length = p.length + 1 := by simp [withRoot, length_sumRow, length_scaleRow]
theorem length_run (s c : Nat) : (run s c).length = c := by simp [run]
end Cof

namespace Go.Proofs.YtcegdgmbponapaaGreatDoor
open Go.RowKit

theorem ret_int {k : IntKind} {a b : Int} (h : a = b) : Ending.returned (.int k a) = .returned (.int k b) := by rw [h]

theorem u8wrap (n : Nat) (h : n < 256) : IntKind.u8.wrap (n : Int) = n := by
  simp [IntKind.wrap, IntKind.bits, IntKind.signed]; omega

theorem bits_and (a b : UInt8) : bits .and .u8 (a.toNat : Int) (b.toNat : Int) = ((a &&& b).toNat : Int) := by
  have ha := a.toNat_lt; have hb := b.toNat_lt
  have e1 : BitVec.ofInt IntKind.u8.bits (a.toNat : Int) = a.toBitVec := by
    apply BitVec.eq_of_toNat_eq; simp [IntKind.bits]
  have e2 : BitVec.ofInt IntKind.u8.bits (b.toNat : Int) = b.toBitVec := by
    apply BitVec.eq_of_toNat_eq; simp [IntKind.bits]
  simp only [bits, e1, e2]
  show IntKind.u8.wrap (((a &&& b).toNat : Nat) : Int) = _
  exact u8wrap _ (UInt8.toNat_lt _)

theorem bits_xor (a b : UInt8) : bits .xor .u8 (a.toNat : Int) (b.toNat : Int) = ((a ^^^ b).toNat : Int) := by
  have e1 : BitVec.ofInt IntKind.u8.bits (a.toNat : Int) = a.toBitVec := by
    apply BitVec.eq_of_toNat_eq; simp [IntKind.bits]
  have e2 : BitVec.ofInt IntKind.u8.bits (b.toNat : Int) = b.toBitVec := by
    apply BitVec.eq_of_toNat_eq; simp [IntKind.bits]
  simp only [bits, e1, e2]
  show IntKind.u8.wrap (((a ^^^ b).toNat : Nat) : Int) = _
  exact u8wrap _ (UInt8.toNat_lt _)

theorem shl1 (a : UInt8) : (a.toNat : Int) * (2 : Int) % (256 : Int) = ((a <<< 1).toNat : Int) := by
  have := Cof.all256 (fun a => (a.toNat * 2 % 256) == (a <<< 1).toNat) (by decide +kernel) a
  simp only [beq_iff_eq] at this
  omega

theorem shr1 (a : UInt8) : (a.toNat : Int) / (2 : Int) = ((a >>> 1).toNat : Int) := by
  have := Cof.all256 (fun a => (a.toNat / 2) == (a >>> 1).toNat) (by decide +kernel) a
  simp only [beq_iff_eq] at this
  omega

theorem tx_low {a : UInt8} (h : (bits .and .u8 (a.toNat : Int) 128 == 0) = true) : (a.toNat : Int) * (2 : Int) % (256 : Int) = ((Cof.tx a).toNat : Int) := by
  rw [shl1]
  have h1 := bits_and a 128
  have h3 : ((128 : UInt8).toNat : Int) = 128 := rfl
  rw [h3] at h1
  rw [h1, beq_iff_eq] at h
  have h2 : a &&& 128 = 0 := by apply UInt8.toNat_inj.1; simpa using h
  simp [Cof.tx, h2]

theorem tx_high {a : UInt8} (h : (bits .and .u8 (a.toNat : Int) 128 == 0) = false) : bits .xor .u8 ((a.toNat : Int) * (2 : Int) % (256 : Int)) 27 = ((Cof.tx a).toNat : Int) := by
  rw [shl1]
  have h1 := bits_and a 128
  have h3 : ((128 : UInt8).toNat : Int) = 128 := rfl
  have h5 := bits_xor (a <<< 1) 27
  have h4 : ((27 : UInt8).toNat : Int) = 27 := rfl
  rw [h3] at h1
  rw [h4] at h5
  rw [h1, beq_eq_false_iff_ne] at h
  have h2 : ¬ a &&& 128 = 0 := by intro h'; apply h; rw [h']; rfl
  rw [h5]
  simp [Cof.tx, h2]

set_option maxHeartbeats 400000 in
theorem timesX_any (a : UInt8) (w : World) :
    Calls Tryz.prog 228 #[.int .u8 a.toNat] w fun e w' => e = .returned (.int .u8 (Cof.tx a).toNat) ∧ w' = w := by
  go_enter Tryz.func228, Tryz.ntmps228
  go_wp2
  · go_ret
    exact ⟨ret_int (tx_low ‹_›), rfl⟩
  · go_ret
    exact ⟨ret_int (tx_high ‹_›), rfl⟩

theorem ne0 {b : UInt8} (h : b ≠ 0) : (b.toNat : Int) ≠ 0 := by
  intro h'; apply h; apply UInt8.toNat_inj.1; simpa using h'

/-- A round of Times. -/
theorem times_step {a b p m : UInt8} {n : Nat} (hn : b.toNat < 2 ^ n) (hp : p ^^^ Cof.mulN n a b = m) (hb : b ≠ 0) :
    ∃ k, (b >>> 1).toNat < 2 ^ k ∧ ((bits .and .u8 (b.toNat : Int) (1 : Int) == 1) = true → (p ^^^ a) ^^^ Cof.mulN k (Cof.tx a) (b >>> 1) = m) ∧
      ((bits .and .u8 (b.toNat : Int) (1 : Int) == 1) = false → p ^^^ Cof.mulN k (Cof.tx a) (b >>> 1) = m) := by
  cases n with
  | zero => exact absurd (UInt8.toNat_inj.1 (by simpa using hn)) hb
  | succ k =>
    have h1 : (bits .and .u8 (b.toNat : Int) (1 : Int) == 1) = (b &&& 1 == 1) := by
      have h := bits_and b 1
      have h3 : ((1 : UInt8).toNat : Int) = 1 := rfl
      rw [h3] at h
      rw [h]
      rcases Cof.bit01 b with h | h <;> rw [h] <;> rfl
    refine ⟨k, ?_, ?_, ?_⟩
    · have := shr1 b; rw [Nat.pow_succ] at hn; omega
    · intro h; rw [h1] at h; rw [← hp]; simp only [Cof.mulN, h, if_true]; rw [UInt8.xor_assoc]
    · intro h; rw [h1] at h; rw [← hp]; simp [Cof.mulN, h]

set_option maxHeartbeats 400000 in
theorem times_any (a b : UInt8) (w : World) :
    Calls Tryz.prog 192 #[.int .u8 a.toNat, .int .u8 b.toNat] w fun e w' => e = .returned (.int .u8 (Cof.mul a b).toNat) ∧ w' = w := by
  go_enter Tryz.func192, Tryz.ntmps192
  go_wp2
  go_loop [0, 1, 5] (fun x y p => ∃ (a' b' p' : UInt8) (n : Nat), x = .int .u8 a'.toNat ∧ y = .int .u8 b'.toNat ∧ p = .int .u8 p'.toNat ∧ b'.toNat < 2 ^ n ∧ p' ^^^ Cof.mulN n a' b' = Cof.mul a b) (fun _ y _ => (intOf y).toNat)
  case atStart => exact ⟨a, b, 0, 8, rfl, rfl, rfl, b.toNat_lt, by simp [Cof.mul]⟩
  case round =>
    obtain ⟨a', b', p', n, rfl, rfl, rfl, hn, hp⟩ := hrel
    have HP : Hid _ := hp
    have HN : Hid _ := hn
    clear hp hn
    by_cases hb : b' = 0
    · subst hb
      go_wp2
      go_ret
      refine ⟨ret_int ?_, rfl⟩
      rw [← HP.out, Cof.mulN_zero]
      simp
    · have hb' := ne0 hb
      have HB : Hid _ := hb
      clear hb
      go_wp2_with (go_at_call 228; refine (timesX_any _ _).mono ?_; rintro e w' ⟨rfl, rfl⟩)
      · go_round
        case rel =>
          obtain ⟨k, k1, k2, k3⟩ := times_step HN.out HP.out HB.out
          exact ⟨_, _, _, k, rfl, by rw [shr1 b'], by rw [bits_xor], k1, k2 ‹_›⟩
        case measure => simp [intOf]; omega
      · go_round
        case rel =>
          obtain ⟨k, k1, k2, k3⟩ := times_step HN.out HP.out HB.out
          exact ⟨_, _, _, k, rfl, by rw [shr1 b'], rfl, k1, k3 ‹_›⟩
        case measure => simp [intOf]; omega

set_option maxHeartbeats 400000 in
theorem inverse_any (a : UInt8) (w : World) :
    Calls Tryz.prog 227 #[.int .u8 a.toNat] w fun e w' => e = .returned (.int .u8 (Cof.inv a).toNat) ∧ w' = w := by
  go_enter Tryz.func227, Tryz.ntmps227
  go_wp2
  go_loop [3, 4, 6] (fun x y i => ∃ (p s : UInt8) (k : Nat), k ≤ 7 ∧ x = .int .u8 p.toNat ∧ y = .int .u8 s.toNat ∧ i = .int .i64 k ∧ Cof.invN (7 - k) p s = Cof.inv a) (fun _ _ i => 7 - (intOf i).toNat)
  case atStart => exact ⟨1, a, 0, by omega, rfl, rfl, rfl, rfl⟩
  case round =>
    obtain ⟨p, s, k, hk, rfl, rfl, rfl, hp⟩ := hrel
    have HP : Hid _ := hp
    clear hp
    by_cases hlt : k < 7
    · go_wp2_with (go_at_call 192; refine (times_any _ _ _).mono ?_; rintro e w' ⟨rfl, rfl⟩)
      go_round
      case rel =>
        refine ⟨_, _, k + 1, by omega, rfl, rfl, by go_num, ?_⟩
        rw [← HP.out, show 7 - k = (7 - (k + 1)) + 1 from by omega]
        rfl
      case measure => simp [intOf]; omega
    · have : k = 7 := by omega
      subst this
      go_wp2
      go_ret
      exact ⟨ret_int (by rw [← HP.out]; rfl), rfl⟩

end Go.Proofs.YtcegdgmbponapaaGreatDoor
