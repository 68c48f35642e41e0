/-
  The walks of cofferref.Times and under: the document's product and what stands under a fraction.
-/
import Derived.Test.YtcegdgmbponapaaDoorWThrough
import Derived.BigQuiet
namespace Go.Proofs.YtcegdgmbponapaaDoor
open Go.RowKit
attribute [local go_sem ↓] Go.wp_at_zero Go.wp_at_succ

theorem bits_xor_i64 (a b : UInt8) : bits .xor .i64 (a.toNat : Int) (b.toNat : Int) = ((a ^^^ b).toNat : Int) := by
  have ha := a.toNat_lt; have hb := b.toNat_lt
  have e1 : BitVec.ofInt IntKind.i64.bits (a.toNat : Int) = BitVec.ofNat 64 a.toNat := by
    apply BitVec.eq_of_toNat_eq; simp [IntKind.bits]
  have e2 : BitVec.ofInt IntKind.i64.bits (b.toNat : Int) = BitVec.ofNat 64 b.toNat := by
    apply BitVec.eq_of_toNat_eq; simp [IntKind.bits]
  simp only [bits, e1, e2]
  show IntKind.i64.wrap (((BitVec.ofNat 64 a.toNat ^^^ BitVec.ofNat 64 b.toNat).toNat : Nat) : Int) = _
  have e3 : (BitVec.ofNat 64 a.toNat ^^^ BitVec.ofNat 64 b.toNat).toNat = (a ^^^ b).toNat := by
    simp [Nat.mod_eq_of_lt (show a.toNat < 18446744073709551616 by omega), Nat.mod_eq_of_lt (show b.toNat < 18446744073709551616 by omega)]
  rw [e3, IntKind.wrap_i64]
  have := (a ^^^ b).toNat_lt
  omega

theorem tx_hi64 {a : UInt8} (h : 128 ≤ a.toNat) : bits .xor .i64 (2 * (a.toNat : Int)) 283 = ((Cof.tx a).toNat : Int) := by
  have h1 := Cof.all256 (fun a => decide (a.toNat < 128) || (bits .xor .i64 (2 * (a.toNat : Int)) 283 == ((Cof.tx a).toNat : Int))) (by decide +kernel) a
  simpa [show ¬ a.toNat < 128 from by omega] using h1

theorem tx_lo64 {a : UInt8} (h : a.toNat < 128) : 2 * (a.toNat : Int) = ((Cof.tx a).toNat : Int) := by
  have := tx_lo h; omega

set_option maxRecDepth 100000 in
set_option maxHeartbeats 400000 in
theorem rtimes_any (a b : UInt8) (w : World) :
    Calls Tryd.prog 75 #[.int .u8 a.toNat, .int .u8 b.toNat] w fun e w' => e = .returned (.int .u8 (Cof.mul a b).toNat) ∧ w' = w := by
  have ha6 : (a.toNat : Int) ≤ 255 := by have := a.toNat_lt; omega
  go_enter Tryd.func75, Tryd.ntmps75
  go_wp2
  go_loop [5, 6, 7] (fun p x i => ∃ (a' b' p' : UInt8) (k : Nat), k ≤ 8 ∧ i = .int .i64 k ∧ x = .int .i64 a'.toNat ∧ p = .int .i64 p'.toNat ∧ (b.toNat : Int) / 2 ^ k = (b'.toNat : Int) ∧ p' ^^^ Cof.mulN (8 - k) a' b' = Cof.mul a b) (fun _ _ i => 8 - (intOf i).toNat)
  case atStart => exact ⟨a, b, 0, 0, by omega, rfl, rfl, rfl, by simp, by simp [Cof.mul]⟩
  case round =>
    obtain ⟨a', b', p', k, hk, rfl, rfl, rfl, hsh, hp⟩ := hrel
    have HP := hid hp
    have ha' : (a'.toNat : Int) ≤ 255 := by have := a'.toNat_lt; omega
    have hp' : (p'.toNat : Int) ≤ 255 := by have := p'.toNat_lt; omega
    clear hp
    by_cases hlt : k < 8
    · have e8 : 8 - k = (8 - (k + 1)) + 1 := by omega
      have hst : (p' ^^^ (if b' &&& 1 == 1 then a' else 0)) ^^^ Cof.mulN (8 - (k + 1)) (Cof.tx a') (b' >>> 1) = Cof.mul a b := by
        rw [← HP.out, e8, Cof.mulN, UInt8.xor_assoc]
      have HS := hid hst
      have HSH := hid (show (b.toNat : Int) / 2 ^ (k + 1) = ((b' >>> 1).toNat : Int) by
        rw [← shr1, ← hsh, Int.pow_succ, Int.ediv_mul_of_nonneg (by exact Int.pow_nonneg (by decide))]; rfl)
      have hob := odd_bit b'
      have hk1 : (k : Int) < 8 := by omega
      clear hst e8 HP
      by_cases ha : 128 ≤ a'.toNat
      · have hg1 : (255 : Int) < 2 * (a'.toNat : Int) := by omega
        have HA := hid (tx_hi64 ha)
        clear ha
        by_cases hb : (b' &&& 1 == 1) = true
        · rw [hb] at hob
          have HB := hid hb
          clear hb
          go_wp2
          go_round
          case rel => exact ⟨_, _, p' ^^^ a', k + 1, by omega, by go_num, by rw [HA.out], by rw [bits_xor_i64], HSH.out, by have := HS.out; rw [if_pos HB.out] at this; exact this⟩
          case measure => simp [intOf]; omega
        · have hb' : (b' &&& 1 == 1) = false := by simpa using hb
          rw [hb'] at hob
          have HB := hid hb
          clear hb hb'
          go_wp2
          go_round
          case rel => exact ⟨_, _, _, k + 1, by omega, by go_num, by rw [HA.out], rfl, HSH.out, by have := HS.out; rw [if_neg HB.out] at this; simpa using this⟩
          case measure => simp [intOf]; omega
      · have hg1 : ¬ (255 : Int) < 2 * (a'.toNat : Int) := by omega
        have HA := hid (tx_lo64 (show a'.toNat < 128 by omega))
        clear ha
        by_cases hb : (b' &&& 1 == 1) = true
        · rw [hb] at hob
          have HB := hid hb
          clear hb
          go_wp2
          go_round
          case rel => exact ⟨_, _, p' ^^^ a', k + 1, by omega, by go_num, by rw [HA.out], by rw [bits_xor_i64], HSH.out, by have := HS.out; rw [if_pos HB.out] at this; exact this⟩
          case measure => simp [intOf]; omega
        · have hb' : (b' &&& 1 == 1) = false := by simpa using hb
          rw [hb'] at hob
          have HB := hid hb
          clear hb hb'
          go_wp2
          go_round
          case rel => exact ⟨_, _, _, k + 1, by omega, by go_num, by rw [HA.out], rfl, HSH.out, by have := HS.out; rw [if_neg HB.out] at this; simpa using this⟩
          case measure => simp [intOf]; omega
    · have hk8 : k = 8 := by omega
      subst hk8
      go_wp2
      go_ret
      exact ⟨ret_int (by have e : p' = Cof.mul a b := (by rw [← HP.out]; simp [Cof.mulN]); rw [← e]), rfl⟩

def und : Nat → UInt8 → UInt8 → UInt8
  | 0, _, p => p
  | n + 1, a, p => und n (Cof.mul a a) (Cof.mul p (Cof.mul a a))

theorem und_inv (a : UInt8) : und 7 a 1 = Cof.inv a := by
  have := Cof.all256 (fun a => und 7 a 1 == Cof.inv a) (by decide +kernel) a
  simpa using this

set_option maxRecDepth 100000 in
set_option maxHeartbeats 400000 in
theorem under_any (a : UInt8) (w : World) :
    Calls Tryd.prog 74 #[.int .u8 a.toNat] w fun e w' => e = .returned (.int .u8 (Cof.inv a).toNat) ∧ w' = w := by
  go_enter Tryd.func74, Tryd.ntmps74
  go_wp2
  go_loop [0, 3, 4] (fun x p i => ∃ (a' p' : UInt8) (k : Nat), 1 ≤ k ∧ k ≤ 8 ∧ i = .int .i64 k ∧ x = .int .u8 a'.toNat ∧ p = .int .u8 p'.toNat ∧ und (8 - k) a' p' = und 7 a 1) (fun _ _ i => 8 - (intOf i).toNat)
  case atStart => exact ⟨a, 1, 1, by omega, by omega, rfl, rfl, rfl, rfl⟩
  case round =>
    obtain ⟨a', p', k, hk0, hk, rfl, rfl, rfl, hp⟩ := hrel
    have HP := hid hp
    clear hp
    by_cases hlt : k < 8
    · have e8 : 8 - k = (8 - (k + 1)) + 1 := by omega
      have HS := hid (show und (8 - (k + 1)) (Cof.mul a' a') (Cof.mul p' (Cof.mul a' a')) = und 7 a 1 by rw [← HP.out, e8, und])
      have hk1 : (k : Int) < 8 := by omega
      clear e8
      go_wp2_with (first | (go_at_call_of 75 (Value.int .u8 a'.toNat); refine (rtimes_any a' a' _).mono ?_; rintro e w1 ⟨rfl, rfl⟩; generalize Cof.mul a' a' = a2 at HS ⊢) | (go_at_call_of 75 (Value.int .u8 p'.toNat); refine (rtimes_any p' _ _).mono ?_; rintro e w1 ⟨rfl, rfl⟩))
      go_round
      case rel => exact ⟨_, _, k + 1, by omega, by omega, by go_num, rfl, rfl, HS.out⟩
      case measure => simp [intOf]; omega
    · have hk8 : k = 8 := by omega
      subst hk8
      go_wp2
      go_ret
      exact ⟨ret_int (by rw [← und_inv, ← HP.out]; rfl), rfl⟩
end Go.Proofs.YtcegdgmbponapaaDoor
