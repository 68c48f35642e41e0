/-
  The walks of package field: timesX, Times, Inverse.
-/
import Derived.Test.YtcegdgmbponapaaDoorProg
import Derived.Test.YtcegdgmbponapaaDoorMath
import Derived.WalkKit
import Derived.WalkSpells
import Derived.WalkLawsBesides
namespace Go.Proofs.YtcegdgmbponapaaDoor
open Go.RowKit

theorem ret_int {k : IntKind} {a b : Int} (h : a = b) : Ending.returned (.int k a) = .returned (.int k b) := by rw [h]

theorem u8wrap (n : Nat) (h : n < 256) : IntKind.u8.wrap (n : Int) = n := by
  simp [IntKind.wrap, IntKind.bits, IntKind.signed]; omega

theorem bits_and (a b : UInt8) : bits .and .u8 (a.toNat : Int) (b.toNat : Int) = ((a &&& b).toNat : Int) := by
  have ha := a.toNat_lt; have hb := b.toNat_lt
  have e1 : BitVec.ofInt IntKind.u8.bits (a.toNat : Int) = a.toBitVec := by
    apply BitVec.eq_of_toNat_eq; simp [IntKind.bits]
  have e2 : BitVec.ofInt IntKind.u8.bits (b.toNat : Int) = b.toBitVec := by
    apply BitVec.eq_of_toNat_eq; simp [IntKind.bits]
  simp only [bits, e1, e2]
  show IntKind.u8.wrap (((a &&& b).toNat : Nat) : Int) = _
  exact u8wrap _ (UInt8.toNat_lt _)

theorem bits_xor (a b : UInt8) : bits .xor .u8 (a.toNat : Int) (b.toNat : Int) = ((a ^^^ b).toNat : Int) := by
  have e1 : BitVec.ofInt IntKind.u8.bits (a.toNat : Int) = a.toBitVec := by
    apply BitVec.eq_of_toNat_eq; simp [IntKind.bits]
  have e2 : BitVec.ofInt IntKind.u8.bits (b.toNat : Int) = b.toBitVec := by
    apply BitVec.eq_of_toNat_eq; simp [IntKind.bits]
  simp only [bits, e1, e2]
  show IntKind.u8.wrap (((a ^^^ b).toNat : Nat) : Int) = _
  exact u8wrap _ (UInt8.toNat_lt _)

theorem shl1 (a : UInt8) : (a.toNat : Int) * (2 : Int) % (256 : Int) = ((a <<< 1).toNat : Int) := by
  have := Cof.all256 (fun a => (a.toNat * 2 % 256) == (a <<< 1).toNat) (by decide +kernel) a
  simp only [beq_iff_eq] at this
  omega

theorem shr1 (a : UInt8) : (a.toNat : Int) / (2 : Int) = ((a >>> 1).toNat : Int) := by
  have := Cof.all256 (fun a => (a.toNat / 2) == (a >>> 1).toNat) (by decide +kernel) a
  simp only [beq_iff_eq] at this
  omega

theorem tx_low {a : UInt8} (h : (bits .and .u8 (a.toNat : Int) 128 == 0) = true) : (a.toNat : Int) * (2 : Int) % (256 : Int) = ((Cof.tx a).toNat : Int) := by
  rw [shl1]
  have h1 := bits_and a 128
  have h3 : ((128 : UInt8).toNat : Int) = 128 := rfl
  rw [h3] at h1
  rw [h1, beq_iff_eq] at h
  have h2 : a &&& 128 = 0 := by apply UInt8.toNat_inj.1; simpa using h
  simp [Cof.tx, h2]

theorem tx_high {a : UInt8} (h : (bits .and .u8 (a.toNat : Int) 128 == 0) = false) : bits .xor .u8 ((a.toNat : Int) * (2 : Int) % (256 : Int)) 27 = ((Cof.tx a).toNat : Int) := by
  rw [shl1]
  have h1 := bits_and a 128
  have h3 : ((128 : UInt8).toNat : Int) = 128 := rfl
  have h5 := bits_xor (a <<< 1) 27
  have h4 : ((27 : UInt8).toNat : Int) = 27 := rfl
  rw [h3] at h1
  rw [h4] at h5
  rw [h1, beq_eq_false_iff_ne] at h
  have h2 : ¬ a &&& 128 = 0 := by intro h'; apply h; rw [h']; rfl
  rw [h5]
  simp [Cof.tx, h2]

set_option maxHeartbeats 400000 in
theorem timesX_any (a : UInt8) (w : World) :
    Calls Tryd.prog 90 #[.int .u8 a.toNat] w fun e w' => e = .returned (.int .u8 (Cof.tx a).toNat) ∧ w' = w := by
  go_enter Tryd.func90, Tryd.ntmps90
  go_wp2
  · go_ret
    exact ⟨ret_int (tx_low ‹_›), rfl⟩
  · go_ret
    exact ⟨ret_int (tx_high ‹_›), rfl⟩

theorem ne0 {b : UInt8} (h : b ≠ 0) : (b.toNat : Int) ≠ 0 := by
  intro h'; apply h; apply UInt8.toNat_inj.1; simpa using h'

/-- A round of Times. -/
theorem times_step {a b p m : UInt8} {n : Nat} (hn : b.toNat < 2 ^ n) (hp : p ^^^ Cof.mulN n a b = m) (hb : b ≠ 0) :
    ∃ k, (b >>> 1).toNat < 2 ^ k ∧ ((bits .and .u8 (b.toNat : Int) (1 : Int) == 1) = true → (p ^^^ a) ^^^ Cof.mulN k (Cof.tx a) (b >>> 1) = m) ∧
      ((bits .and .u8 (b.toNat : Int) (1 : Int) == 1) = false → p ^^^ Cof.mulN k (Cof.tx a) (b >>> 1) = m) := by
  cases n with
  | zero => exact absurd (UInt8.toNat_inj.1 (by simpa using hn)) hb
  | succ k =>
    have h1 : (bits .and .u8 (b.toNat : Int) (1 : Int) == 1) = (b &&& 1 == 1) := by
      have h := bits_and b 1
      have h3 : ((1 : UInt8).toNat : Int) = 1 := rfl
      rw [h3] at h
      rw [h]
      rcases Cof.bit01 b with h | h <;> rw [h] <;> rfl
    refine ⟨k, ?_, ?_, ?_⟩
    · have := shr1 b; rw [Nat.pow_succ] at hn; omega
    · intro h; rw [h1] at h; rw [← hp]; simp only [Cof.mulN, h, if_true]; rw [UInt8.xor_assoc]
    · intro h; rw [h1] at h; rw [← hp]; simp [Cof.mulN, h]

set_option maxHeartbeats 400000 in
theorem times_any (a b : UInt8) (w : World) :
    Calls Tryd.prog 81 #[.int .u8 a.toNat, .int .u8 b.toNat] w fun e w' => e = .returned (.int .u8 (Cof.mul a b).toNat) ∧ w' = w := by
  go_enter Tryd.func81, Tryd.ntmps81
  go_wp2
  go_loop [0, 1, 5] (fun x y p => ∃ (a' b' p' : UInt8) (n : Nat), x = .int .u8 a'.toNat ∧ y = .int .u8 b'.toNat ∧ p = .int .u8 p'.toNat ∧ b'.toNat < 2 ^ n ∧ p' ^^^ Cof.mulN n a' b' = Cof.mul a b) (fun _ y _ => (intOf y).toNat)
  case atStart => exact ⟨a, b, 0, 8, rfl, rfl, rfl, b.toNat_lt, by simp [Cof.mul]⟩
  case round =>
    obtain ⟨a', b', p', n, rfl, rfl, rfl, hn, hp⟩ := hrel
    have HP : Hid _ := hp
    have HN : Hid _ := hn
    clear hp hn
    by_cases hb : b' = 0
    · subst hb
      go_wp2
      go_ret
      refine ⟨ret_int ?_, rfl⟩
      rw [← HP.out, Cof.mulN_zero]
      simp
    · have hb' := ne0 hb
      have HB : Hid _ := hb
      clear hb
      go_wp2_with (go_at_call 90; refine (timesX_any _ _).mono ?_; rintro e w' ⟨rfl, rfl⟩)
      · go_round
        case rel =>
          obtain ⟨k, k1, k2, k3⟩ := times_step HN.out HP.out HB.out
          exact ⟨_, _, _, k, rfl, by rw [shr1 b'], by rw [bits_xor], k1, k2 ‹_›⟩
        case measure => simp [intOf]; omega
      · go_round
        case rel =>
          obtain ⟨k, k1, k2, k3⟩ := times_step HN.out HP.out HB.out
          exact ⟨_, _, _, k, rfl, by rw [shr1 b'], rfl, k1, k3 ‹_›⟩
        case measure => simp [intOf]; omega

set_option maxHeartbeats 400000 in
theorem inverse_any (a : UInt8) (w : World) :
    Calls Tryd.prog 89 #[.int .u8 a.toNat] w fun e w' => e = .returned (.int .u8 (Cof.inv a).toNat) ∧ w' = w := by
  go_enter Tryd.func89, Tryd.ntmps89
  go_wp2
  go_loop [3, 4, 6] (fun x y i => ∃ (p s : UInt8) (k : Nat), k ≤ 7 ∧ x = .int .u8 p.toNat ∧ y = .int .u8 s.toNat ∧ i = .int .i64 k ∧ Cof.invN (7 - k) p s = Cof.inv a) (fun _ _ i => 7 - (intOf i).toNat)
  case atStart => exact ⟨1, a, 0, by omega, rfl, rfl, rfl, rfl⟩
  case round =>
    obtain ⟨p, s, k, hk, rfl, rfl, rfl, hp⟩ := hrel
    have HP : Hid _ := hp
    clear hp
    by_cases hlt : k < 7
    · go_wp2_with (go_at_call 81; refine (times_any _ _ _).mono ?_; rintro e w' ⟨rfl, rfl⟩)
      go_round
      case rel =>
        refine ⟨_, _, k + 1, by omega, rfl, rfl, by go_num, ?_⟩
        rw [← HP.out, show 7 - k = (7 - (k + 1)) + 1 from by omega]
        rfl
      case measure => simp [intOf]; omega
    · have : k = 7 := by omega
      subst this
      go_wp2
      go_ret
      exact ⟨ret_int (by rw [← HP.out]; rfl), rfl⟩

end Go.Proofs.YtcegdgmbponapaaDoor
