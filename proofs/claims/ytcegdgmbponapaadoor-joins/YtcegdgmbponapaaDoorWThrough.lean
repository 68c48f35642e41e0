/-
  The walks of cofferkeep.times, over, through and wanted.
-/
import Derived.Test.YtcegdgmbponapaaDoorWChosen
import Derived.Test.YtcegdgmbponapaaDoorInterp
namespace Go.Proofs.YtcegdgmbponapaaDoor
open Go.RowKit
attribute [local go_sem ↓] Go.wp_at_zero Go.wp_at_succ

theorem tx_hi {a : UInt8} (h : 128 ≤ a.toNat) : bits .xor .u8 ((a.toNat : Int) * (2 : Int) % (256 : Int)) 27 = ((Cof.tx a).toNat : Int) := by
  apply tx_high
  have h1 := Cof.all256 (fun a => decide (a.toNat < 128) || (a &&& 128 == 128)) (by decide +kernel) a
  have h2 : a &&& 128 = 128 := by simpa [show ¬ a.toNat < 128 from by omega] using h1
  have h3 := bits_and a 128
  have h4 : ((128 : UInt8).toNat : Int) = 128 := rfl
  rw [h4] at h3
  rw [h3, h2]; rfl

theorem tx_lo {a : UInt8} (h : a.toNat < 128) : (a.toNat : Int) * (2 : Int) % (256 : Int) = ((Cof.tx a).toNat : Int) := by
  apply tx_low
  have h1 := Cof.all256 (fun a => decide (128 ≤ a.toNat) || (a &&& 128 == 0)) (by decide +kernel) a
  have h2 : a &&& 128 = 0 := by simpa [show ¬ 128 ≤ a.toNat from by omega] using h1
  have h3 := bits_and a 128
  have h4 : ((128 : UInt8).toNat : Int) = 128 := rfl
  rw [h4] at h3
  rw [h3, h2]; rfl

theorem odd_bit (b : UInt8) : (bits .and .u8 (b.toNat : Int) (1 : Int) == 1) = (b &&& 1 == 1) := by
  have h := bits_and b 1
  have h3 : ((1 : UInt8).toNat : Int) = 1 := rfl
  rw [h3] at h
  rw [h]
  rcases Cof.bit01 b with h | h <;> rw [h] <;> rfl

set_option maxRecDepth 100000 in
set_option maxHeartbeats 400000 in
theorem ktimes_any (a b : UInt8) (w : World) :
    Calls Tryd.prog 42 #[.int .u8 a.toNat, .int .u8 b.toNat] w fun e w' => e = .returned (.int .u8 (Cof.mul a b).toNat) ∧ w' = w := by
  go_enter Tryd.func42, Tryd.ntmps42
  go_wp2
  go_loop [0, 1, 5, 6] (fun x y p i => ∃ (a' b' p' : UInt8) (k : Nat), k ≤ 8 ∧ i = .int .i64 k ∧ x = .int .u8 a'.toNat ∧ y = .int .u8 b'.toNat ∧ p = .int .u8 p'.toNat ∧ p' ^^^ Cof.mulN (8 - k) a' b' = Cof.mul a b) (fun _ _ _ i => 8 - (intOf i).toNat)
  case atStart => exact ⟨a, b, 0, 0, by omega, rfl, rfl, rfl, rfl, by simp [Cof.mul]⟩
  case round =>
    obtain ⟨a', b', p', k, hk, rfl, rfl, rfl, rfl, hp⟩ := hrel
    have HP := hid hp
    clear hp
    by_cases hlt : k < 8
    · have e8 : 8 - k = (8 - (k + 1)) + 1 := by omega
      have hst : (p' ^^^ (if b' &&& 1 == 1 then a' else 0)) ^^^ Cof.mulN (8 - (k + 1)) (Cof.tx a') (b' >>> 1) = Cof.mul a b := by
        rw [← HP.out, e8, Cof.mulN, UInt8.xor_assoc]
      have HS := hid hst
      have hob := odd_bit b'
      clear hst e8 HP
      by_cases ha : 128 ≤ a'.toNat
      · have ha' : (128 : Int) ≤ (a'.toNat : Int) := by omega
        have HA := hid (tx_hi ha)
        by_cases hb : (b' &&& 1 == 1) = true
        · rw [hb] at hob
          have HB := hid hb
          clear hb
          go_wp2
          go_round
          case rel => exact ⟨_, _, _, k + 1, by omega, by go_num, by rw [HA.out], by rw [shr1 b'], by rw [bits_xor], by have := HS.out; rw [if_pos HB.out] at this; exact this⟩
          case measure => simp [intOf]; omega
        · have hb' : (b' &&& 1 == 1) = false := by simpa using hb
          rw [hb'] at hob
          have HB := hid hb
          clear hb hb'
          go_wp2
          go_round
          case rel => exact ⟨_, _, _, k + 1, by omega, by go_num, by rw [HA.out], by rw [shr1 b'], rfl, by have := HS.out; rw [if_neg HB.out] at this; simpa using this⟩
          case measure => simp [intOf]; omega
      · have ha' : ¬ (128 : Int) ≤ (a'.toNat : Int) := by omega
        have HA := hid (show (a'.toNat : Int) * (2 : Int) = ((Cof.tx a').toNat : Int) from by have := tx_lo (show a'.toNat < 128 by omega); omega)
        by_cases hb : (b' &&& 1 == 1) = true
        · rw [hb] at hob
          have HB := hid hb
          clear hb
          go_wp2
          go_round
          case rel => exact ⟨_, _, _, k + 1, by omega, by go_num, by rw [HA.out], by rw [shr1 b'], by rw [bits_xor], by have := HS.out; rw [if_pos HB.out] at this; exact this⟩
          case measure => simp [intOf]; omega
        · have hb' : (b' &&& 1 == 1) = false := by simpa using hb
          rw [hb'] at hob
          have HB := hid hb
          clear hb hb'
          go_wp2
          go_round
          case rel => exact ⟨_, _, _, k + 1, by omega, by go_num, by rw [HA.out], by rw [shr1 b'], rfl, by have := HS.out; rw [if_neg HB.out] at this; simpa using this⟩
          case measure => simp [intOf]; omega
    · have hk8 : k = 8 := by omega
      subst hk8
      go_wp2
      go_ret
      exact ⟨ret_int (by rw [← HP.out]; simp [Cof.mulN]), rfl⟩

theorem u8_int (x : Nat) (h : x < 256) : (x : Int) = ((UInt8.ofNat x).toNat : Int) := by simp [Nat.mod_eq_of_lt h]

theorem over_found {a b : UInt8} (hb : b ≠ 0) (x : Nat) (h : Cof.mul (UInt8.ofNat x) b = a) : UInt8.ofNat x = Cof.mul a (Cof.inv b) := by
  rw [← h, Cof.mul_assoc, Cof.mul_inv b hb, Cof.mul_one]

theorem over_there (a b : UInt8) (hb : b ≠ 0) : Cof.mul (UInt8.ofNat (Cof.mul a (Cof.inv b)).toNat) b = a := by
  rw [UInt8.ofNat_toNat, Cof.mul_assoc, Cof.mul_comm (Cof.inv b) b, Cof.mul_inv b hb, Cof.mul_one]

theorem ktimes_nat (k : Nat) (b : UInt8) (w : World) (h : k < 256) :
    Calls Tryd.prog 42 #[.int .u8 (k : Int), .int .u8 b.toNat] w fun e w' => e = .returned (.int .u8 (Cof.mul (UInt8.ofNat k) b).toNat) ∧ w' = w := by
  rw [u8_int k h]; exact ktimes_any _ _ _

theorem u8_ne {a b : UInt8} (h : a ≠ b) : ((a.toNat : Int) == (b.toNat : Int)) = false := by
  rw [beq_eq_false_iff_ne]; intro h'; apply h; apply UInt8.toNat_inj.1; omega

set_option maxRecDepth 100000 in
set_option maxHeartbeats 400000 in
theorem over_any (a b : UInt8) (w : World) (hb : b ≠ 0) :
    Calls Tryd.prog 43 #[.int .u8 a.toNat, .int .u8 b.toNat] w fun e w' => e = .returned (.int .u8 (Cof.mul a (Cof.inv b)).toNat) ∧ w' = w := by
  have hq := (Cof.mul a (Cof.inv b)).toNat_lt
  have HT := hid (over_there a b hb)
  have HB := hid hb
  clear hb
  go_enter Tryd.func43, Tryd.ntmps43
  go_wp2
  go_loop [5] (fun i => ∃ k : Nat, k ≤ (Cof.mul a (Cof.inv b)).toNat ∧ i = .int .i64 k) (fun i => 256 - (intOf i).toNat)
  case atStart => exact ⟨0, Nat.zero_le _, rfl⟩
  case round =>
    obtain ⟨k, hk, rfl⟩ := hrel
    have hk6 : k < 256 := by omega
    by_cases h : Cof.mul (UInt8.ofNat k) b = a
    · have hf := over_found HB.out k h
      have HF := hid (show (k : Int) = ((Cof.mul a (Cof.inv b)).toNat : Int) by rw [← hf]; exact u8_int k hk6)
      have HE := hid h
      clear hf h
      go_wp2_with (go_at_call 42; refine (ktimes_nat k b _ hk6).mono ?_; rintro e w1 ⟨rfl, rfl⟩; rw [HE.out])
      go_ret
      exact ⟨ret_int HF.out, rfl⟩
    · have hne := u8_ne h
      have hk2 : k + 1 ≤ (Cof.mul a (Cof.inv b)).toNat := by
        rcases Nat.lt_or_ge k (Cof.mul a (Cof.inv b)).toNat with h' | h'
        · exact h'
        · exfalso; apply h
          have : k = (Cof.mul a (Cof.inv b)).toNat := by omega
          rw [this]; exact HT.out
      clear h
      go_wp2_with (go_at_call 42; refine (ktimes_nat k b _ hk6).mono ?_; rintro e w1 ⟨rfl, rfl⟩)
      go_round
      case rel => exact ⟨k + 1, hk2, by go_num⟩
      case measure => simp [intOf]; omega

theorem through_term (xs : List UInt8) (i : Nat) (x y : UInt8) : Cof.mul (Cof.mul y (Cof.prodTo xs i x xs.length)) (Cof.inv (Cof.prodTo xs i (xs.getD i 0) xs.length)) = Cof.mul (Cof.polyAt (Cof.basis xs i) x) y := by
  rw [Cof.basis_val, Cof.mul_assoc, Cof.mul_comm y, Cof.mul_comm (Cof.prodTo xs i x xs.length)]

theorem cell_u8 {w wr : World} {b o k : Nat} {xs : List UInt8} (hb : Below w.heap.size w wr) (hbs : b < w.heap.size) (hcell : ∀ k v, (bs xs)[k]? = some v → w.cell? ⟨b, o + k, none⟩ = some v) (hk : k < xs.length) : wr.cell? ⟨b, o + k, none⟩ = some (.int .u8 (xs.getD k 0).toNat) := by
  rw [hb.cell (by exact hbs)]; exact hcell k _ (bs_get _ _ hk)

set_option maxRecDepth 100000 in
set_option maxHeartbeats 1000000 in
theorem through_any (ax ay : Option Addr) (cx cy m : Nat) (xs ys : List UInt8) (x : UInt8) (w : World) (ex : m = xs.length) (ey : m = ys.length) (hx : Rd w ax (bs xs)) (hy : Rd w ay (bs ys)) (hn : xs.Nodup) (hm : m ≤ 100) :
    Calls Tryd.prog 27 #[.slice ax m cx, .slice ay m cy, .int .u8 x.toNat] w fun e w' => e = .returned (.int .u8 (Cof.itp xs ys x).toNat) ∧ Below w.heap.size w w' := by
  have EX := hid ex
  have EY := hid ey
  have HN := hid hn
  clear ex ey hn
  go_enter Tryd.func27, Tryd.ntmps27
  go_wp2
  go_loopw [7, 8] (fun s i wr => ∃ k : Nat, k ≤ m ∧ i = .int .i64 k ∧ s = .int .u8 (Cof.csum (fun j => Cof.polyAt (Cof.basis xs j) x) (fun j => ys.getD j 0) k).toNat ∧ Below w.heap.size w wr)
    (fun _ i _ => m - (intOf i).toNat)
  case atStart => exact ⟨0, Nat.zero_le _, rfl, rfl, Below.refl _ _⟩
  case round =>
    obtain ⟨i, hi, rfl, rfl, hbel⟩ := hrel
    by_cases hlt : i < m
    · have hix : i < xs.length := by rw [← EX.out]; exact hlt
      have hiy : i < ys.length := by rw [← EY.out]; exact hlt
      obtain ⟨bx, ox, rfl, hbx, hcx⟩ := hx.pos (by rw [bs_length]; omega)
      obtain ⟨by', oy, rfl, hby, hcy⟩ := hy.pos (by rw [bs_length]; omega)
      have cy0 := cell_u8 hbel hby hcy hiy
      have HCX := hid hcx
      have HSUM := hid (show Cof.csum (fun j => Cof.polyAt (Cof.basis xs j) x) (fun j => ys.getD j 0) (i + 1) = Cof.csum (fun j => Cof.polyAt (Cof.basis xs j) x) (fun j => ys.getD j 0) i ^^^ Cof.mul (Cof.polyAt (Cof.basis xs i) x) (ys.getD i 0) from rfl)
      generalize Cof.csum (fun j => Cof.polyAt (Cof.basis xs j) x) (fun j => ys.getD j 0) i = s0 at HSUM ⊢
      have HTERM := hid (through_term xs i x (ys.getD i 0))
      generalize ys.getD i 0 = yi at HSUM HTERM cy0 ⊢
      have HNE := hid (Cof.prodTo_ne xs i xs.length (xs.getD i 0) (fun j hj hne => Cof.nodup_ne HN.out hix hj hne))
      have CXI : Hid (∀ wq, Below w.heap.size w wq → wq.cell? ⟨bx, ox + i, none⟩ = some (.int .u8 (xs.getD i 0).toNat)) := fun wq h => cell_u8 h hbx hcx hix
      obtain ⟨xi, hxi⟩ : ∃ xi, xi = xs.getD i 0 := ⟨_, rfl⟩
      rw [← hxi] at HTERM HNE CXI
      clear hcx hcy hxi
      go_wp2
      go_loopw [9, 10, 11] (fun u d q wq => ∃ k : Nat, k ≤ m ∧ q = .int .i64 k ∧ u = .int .u8 (Cof.mul yi (Cof.prodTo xs i x k)).toNat ∧ d = .int .u8 (Cof.prodTo xs i xi k).toNat ∧ Below w.heap.size w wq)
        (fun _ _ q _ => m - (intOf q).toNat)
      case atStart => exact ⟨0, Nat.zero_le _, rfl, by simp [Cof.prodTo, Cof.mul_one], rfl, hbel⟩
      case round =>
        obtain ⟨k, hk, rfl, rfl, rfl, hbq⟩ := hrel
        by_cases hkm : k < m
        · have hkx : k < xs.length := by rw [← EX.out]; exact hkm
          have ck := cell_u8 hbq hbx HCX.out hkx
          have ci := CXI.out _ hbq
          have hk0 : (0 : Int) ≤ (k : Int) := by omega
          have hk1 : (k : Int) < (m : Int) := by omega
          have hi0 : (0 : Int) ≤ (i : Int) := by omega
          have hi1 : (i : Int) < (m : Int) := by omega
          by_cases hki : k = i
          · have hb : ((k : Int) != (i : Int)) = false := by simp [hki]
            have HKI := hid hki
            clear hki
            go_wp2
            go_roundw
            case rel => exact ⟨k + 1, by omega, by go_num, by simp [Cof.prodTo, HKI.out], by simp [Cof.prodTo, HKI.out], hbq⟩
            case measure => simp [intOf]; omega
          · have hb : ((k : Int) != (i : Int)) = true := by rw [bne_iff_ne]; omega
            have P1 := hid (show Cof.prodTo xs i x (k + 1) = Cof.mul (Cof.prodTo xs i x k) (x ^^^ xs.getD k 0) from by simp [Cof.prodTo, hki])
            have P2 := hid (show Cof.prodTo xs i xi (k + 1) = Cof.mul (Cof.prodTo xs i xi k) (xi ^^^ xs.getD k 0) from by simp [Cof.prodTo, hki])
            generalize xs.getD k 0 = xk at ck P1 P2
            have b1 := bits_xor x xk
            have b2 := bits_xor xi xk
            generalize x ^^^ xk = g1 at b1 P1
            generalize xi ^^^ xk = g2 at b2 P2
            generalize Cof.prodTo xs i x k = p1 at P1 ⊢
            generalize Cof.prodTo xs i xi k = p2 at P2 ⊢
            clear hki
            go_wp2_with (go_at_call 42; refine (ktimes_any _ _ _).mono ?_; rintro e w1 ⟨rfl, rfl⟩)
            go_quiet ((go_at_call 42; exact Calls.quiet_of_same (ktimes_any _ _ _)))
            go_wp2
            go_roundw
            case rel => exact ⟨k + 1, by omega, by go_num, by rw [P1.out, ← Cof.mul_assoc], by rw [P2.out], below_drewN hbq _⟩
            case measure => simp [intOf]; omega
        · have hkn : k = xs.length := by rw [← EX.out]; omega
          subst hkn
          go_wp2_with (go_at_call 43; refine (over_any _ _ _ HNE.out).mono ?_; rintro e w1 ⟨rfl, rfl⟩; rw [HTERM.out])
          go_roundw
          case rel => exact ⟨i + 1, by omega, by go_num, by rw [bits_xor, HSUM.out], hbq⟩
          case measure => simp [intOf]; omega
    · have hkn : i = xs.length := by rw [← EX.out]; omega
      subst hkn
      go_wp2
      go_ret
      exact ⟨rfl, hbel⟩

end Go.Proofs.YtcegdgmbponapaaDoor
