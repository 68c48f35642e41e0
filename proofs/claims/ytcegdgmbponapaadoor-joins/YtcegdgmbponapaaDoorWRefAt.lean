/-
  The walk of cofferref.At: the polynomial through points.
-/
import Derived.Test.YtcegdgmbponapaaDoorWRefTimes
import Derived.BigQuiet
namespace Go.Proofs.YtcegdgmbponapaaDoor
open Go.RowKit
attribute [local go_sem ↓] Go.wp_at_zero Go.wp_at_succ

/-- Points, as they are read. -/
def PtRd (w : World) (a : Option Addr) (xs ys : List UInt8) : Prop :=
  ∀ i, i < xs.length → ∃ b o, a = some ⟨b, o, none⟩ ∧ b < w.heap.size ∧ w.cell? ⟨b, o + i * 2, none⟩ = some (.int .u8 (xs.getD i 0).toNat) ∧ w.cell? ⟨b, o + i * 2 + 1, none⟩ = some (.int .u8 (ys.getD i 0).toNat)

theorem inv_mul {a b : UInt8} (ha : a ≠ 0) (hb : b ≠ 0) : Cof.inv (Cof.mul a b) = Cof.mul (Cof.inv a) (Cof.inv b) := by
  have hab : Cof.mul a b ≠ 0 := fun h => hb (Cof.mul_eq_zero h ha)
  have e1 : Cof.mul (Cof.mul a b) (Cof.mul (Cof.inv a) (Cof.inv b)) = 1 := by
    rw [Cof.mul_comm a b, Cof.mul_assoc, ← Cof.mul_assoc a, Cof.mul_inv a ha, Cof.one_mul, Cof.mul_inv b hb]
  have e2 : Cof.inv (Cof.mul a b) = Cof.mul (Cof.inv (Cof.mul a b)) (Cof.mul (Cof.mul a b) (Cof.mul (Cof.inv a) (Cof.inv b))) := by rw [e1, Cof.mul_one]
  rw [e2, ← Cof.mul_assoc, Cof.mul_comm (Cof.inv (Cof.mul a b)), Cof.mul_inv _ hab, Cof.one_mul]

theorem at_step (y p1 p2 g1 g2 : UInt8) (h1 : p2 ≠ 0) (h2 : g2 ≠ 0) :
    Cof.mul (Cof.mul (Cof.mul (Cof.mul y p1) (Cof.inv p2)) g1) (Cof.inv g2) = Cof.mul (Cof.mul y (Cof.mul p1 g1)) (Cof.inv (Cof.mul p2 g2)) := by
  rw [inv_mul h1 h2, Cof.mul_assoc (Cof.mul y p1), Cof.mul_comm (Cof.inv p2) g1, ← Cof.mul_assoc (Cof.mul y p1), Cof.mul_assoc y p1 g1, Cof.mul_assoc]

theorem xor_ne_zero {a b : UInt8} (h : b ≠ a) : a ^^^ b ≠ 0 := by
  intro h0
  apply h
  have := congrArg (· ^^^ b) h0
  simpa [UInt8.xor_assoc] using this.symm

set_option maxRecDepth 100000 in
set_option maxHeartbeats 1000000 in
theorem rat_any (a : Option Addr) (c m : Nat) (xs ys : List UInt8) (x : UInt8) (w : World) (ex : m = xs.length) (hr : PtRd w a xs ys) (hn : xs.Nodup) (hm : m ≤ 100) :
    Calls Tryd.prog 55 #[.slice a m c, .int .u8 x.toNat] w fun e w' => e = .returned (.int .u8 (Cof.itp xs ys x).toNat) ∧ Below w.heap.size w w' := by
  have EX := hid ex
  have HN := hid hn
  have HR := hid hr
  clear ex hn hr
  go_enter Tryd.func55, Tryd.ntmps55
  go_wp2
  go_loopw [5, 6] (fun s i wr => ∃ k : Nat, k ≤ m ∧ i = .int .i64 k ∧ s = .int .u8 (Cof.csum (fun j => Cof.polyAt (Cof.basis xs j) x) (fun j => ys.getD j 0) k).toNat ∧ Below w.heap.size w wr)
    (fun _ i _ => m - (intOf i).toNat)
  case atStart => exact ⟨0, Nat.zero_le _, rfl, rfl, Below.refl _ _⟩
  case round =>
    obtain ⟨i, hi, rfl, rfl, hbel⟩ := hrel
    by_cases hlt : i < m
    · have hix : i < xs.length := by rw [← EX.out]; exact hlt
      obtain ⟨b, o, rfl, hb, h1, h2⟩ := HR.out i hix
      have cy : wr.cell? ⟨b, o + i * 2 + 1, none⟩ = some (.int .u8 (ys.getD i 0).toNat) := (hbel.cell (by exact hb)).trans h2
      have HSUM := hid (show Cof.csum (fun j => Cof.polyAt (Cof.basis xs j) x) (fun j => ys.getD j 0) (i + 1) = Cof.csum (fun j => Cof.polyAt (Cof.basis xs j) x) (fun j => ys.getD j 0) i ^^^ Cof.mul (Cof.polyAt (Cof.basis xs i) x) (ys.getD i 0) from rfl)
      generalize Cof.csum (fun j => Cof.polyAt (Cof.basis xs j) x) (fun j => ys.getD j 0) i = s0 at HSUM ⊢
      have HTERM := hid (through_term xs i x (ys.getD i 0))
      have HC1 := hid h1
      have HNE := hid (fun k (hk : k ≤ xs.length) => Cof.prodTo_ne xs i k (xs.getD i 0) (fun j hj hne => Cof.nodup_ne HN.out hix (by omega) hne))
      have HNX := hid (fun k (hk : k < xs.length) (hne : k ≠ i) => xor_ne_zero (Cof.nodup_ne HN.out hix hk hne))
      generalize ys.getD i 0 = yi at HSUM HTERM cy ⊢
      obtain ⟨xi, hxi⟩ : ∃ xi, xi = xs.getD i 0 := ⟨_, rfl⟩
      rw [← hxi] at HTERM HNE HC1 HNX
      have hi1 : (i : Int) < (m : Int) := by omega
      clear h1 h2 hxi
      go_wp2
      go_loopw [7, 8] (fun t q wq => ∃ k : Nat, k ≤ m ∧ q = .int .i64 k ∧ t = .int .u8 (Cof.mul (Cof.mul yi (Cof.prodTo xs i x k)) (Cof.inv (Cof.prodTo xs i xi k))).toNat ∧ Below w.heap.size w wq)
        (fun _ q _ => m - (intOf q).toNat)
      case atStart => exact ⟨0, Nat.zero_le _, rfl, by rw [show Cof.prodTo xs i x 0 = 1 from rfl, show Cof.prodTo xs i xi 0 = 1 from rfl, show Cof.inv 1 = 1 by decide +kernel, Cof.mul_one, Cof.mul_one], hbel⟩
      case round =>
        obtain ⟨k, hk, rfl, rfl, hbq⟩ := hrel
        by_cases hkm : k < m
        · have hkx : k < xs.length := by rw [← EX.out]; exact hkm
          obtain ⟨b', o', e1, _, h3, _⟩ := HR.out k hkx
          obtain ⟨rfl, rfl⟩ : b = b' ∧ o = o' := by injection e1 with e1; injection e1 with h1 h2; exact ⟨h1, h2⟩
          have ck := (hbq.cell (p := ⟨b, o + k * 2, none⟩) (by exact hb)).trans h3
          have ci := (hbq.cell (p := ⟨b, o + i * 2, none⟩) (by exact hb)).trans HC1.out
          have hk1 : (k : Int) < (m : Int) := by omega
          clear e1 h3
          by_cases hki : k = i
          · have hb1 : ((k : Int) != (i : Int)) = false := by simp [hki]
            have HKI := hid hki
            clear hki
            go_wp2
            go_roundw
            case rel => exact ⟨k + 1, by omega, by go_num, by simp [Cof.prodTo, HKI.out], hbq⟩
            case measure => simp [intOf]; omega
          · have hb1 : ((k : Int) != (i : Int)) = true := by rw [bne_iff_ne]; omega
            have P1 := hid (show Cof.prodTo xs i x (k + 1) = Cof.mul (Cof.prodTo xs i x k) (x ^^^ xs.getD k 0) from by simp [Cof.prodTo, hki])
            have P2 := hid (show Cof.prodTo xs i xi (k + 1) = Cof.mul (Cof.prodTo xs i xi k) (xi ^^^ xs.getD k 0) from by simp [Cof.prodTo, hki])
            have N1 := hid (HNE.out k (by omega))
            have N2 := hid (HNX.out k hkx hki)
            generalize xs.getD k 0 = xk at ck P1 P2 N2
            have b1 := bits_xor x xk
            have b2 := bits_xor xi xk
            generalize x ^^^ xk = g1 at b1 P1
            generalize xi ^^^ xk = g2 at b2 P2 N2
            generalize Cof.prodTo xs i x k = p1 at P1 ⊢
            generalize Cof.prodTo xs i xi k = p2 at P2 N1 ⊢
            have HST := hid (at_step yi p1 p2 g1 g2 N1.out N2.out)
            generalize Cof.mul (Cof.mul yi p1) (Cof.inv p2) = t0 at HST ⊢
            clear hki
            go_wp2_with fail
            go_quiet ((go_at_call 74; exact Calls.quiet_of_same (under_any _ _)))
            go_wp2_with (first | (go_at_call_of 75 (Value.int .u8 t0.toNat); refine (rtimes_any _ _ _).mono ?_; rintro e w1 ⟨rfl, rfl⟩; generalize Cof.mul t0 g1 = t1 at HST ⊢) | (go_at_call_of 75 (Value.int .u8 t1.toNat); refine (rtimes_any _ _ _).mono ?_; rintro e w1 ⟨rfl, rfl⟩))
            go_roundw
            case rel => exact ⟨k + 1, by omega, by go_num, by rw [P1.out, P2.out, ← HST.out], below_drewN hbq _⟩
            case measure => simp [intOf]; omega
        · have hkn : k = xs.length := by rw [← EX.out]; omega
          subst hkn
          have hk1 : ¬ ((xs.length : Nat) : Int) < (m : Int) := by omega
          rw [HTERM.out]
          go_wp2
          go_roundw
          case rel => exact ⟨i + 1, by omega, by go_num, by rw [bits_xor, HSUM.out], hbq⟩
          case measure => simp [intOf]; omega
    · have hkn : i = xs.length := by rw [← EX.out]; omega
      subst hkn
      go_wp2
      go_ret
      exact ⟨rfl, hbel⟩
end Go.Proofs.YtcegdgmbponapaaDoor
