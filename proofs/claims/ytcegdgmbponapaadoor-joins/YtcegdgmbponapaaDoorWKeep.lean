/-
  The walks of package cofferkeep's shaping functions.
-/
import Derived.Test.YtcegdgmbponapaaDoorWSplit
namespace Go.Proofs.YtcegdgmbponapaaDoor
open Go.RowKit
attribute [local go_sem ↓] Go.wp_at_zero Go.wp_at_succ

/-- Which of n things the raw number speaks of. -/
def pickN (c : Int) (n : Nat) : Nat := (if c < 0 then -(c + 1) else c).toNat % n

theorem pickN_lt (c : Int) (n : Nat) (h : 0 < n) : pickN c n < n := Nat.mod_lt _ h

theorem pick_neg {c : Int} {n : Nat} (h : c < 0) : (-(c + 1)).tmod (n : Int) = (pickN c n : Int) := by
  unfold pickN
  rw [if_pos h, Int.tmod_eq_emod_of_nonneg (by omega)]
  have : (((-(c + 1)).toNat : Nat) : Int) = -(c + 1) := by omega
  rw [Int.natCast_emod, this]

theorem pick_pos {c : Int} {n : Nat} (h : ¬ c < 0) : c.tmod (n : Int) = (pickN c n : Int) := by
  unfold pickN
  rw [if_neg h, Int.tmod_eq_emod_of_nonneg (by omega)]
  have : ((c.toNat : Nat) : Int) = c := by omega
  rw [Int.natCast_emod, this]

set_option maxRecDepth 100000 in
set_option maxHeartbeats 400000 in
theorem pick_any (c : Int) (n : Nat) (w : World) (h1 : -9223372036854775808 ≤ c) (h2 : c ≤ 9223372036854775807) (hn : 0 < n) (hm : n ≤ 1000) :
    Calls Tryd.prog 18 #[.int .i64 c, .int .i64 n] w fun e w' => e = .returned (.int .i64 (pickN c n)) ∧ w' = w := by
  have hn0 : n ≠ 0 := by omega
  by_cases hc : c < 0
  · go_enter Tryd.func18, Tryd.ntmps18
    go_wp2
    go_ret
    exact ⟨ret_int (by rw [← pick_neg hc, Int.neg_tmod]), rfl⟩
  · go_enter Tryd.func18, Tryd.ntmps18
    go_wp2
    go_ret
    exact ⟨ret_int (by rw [← pick_pos (by omega), Int.tmod_eq_emod_of_nonneg (by omega)]), rfl⟩

set_option maxRecDepth 100000 in
set_option maxHeartbeats 400000 in
theorem keepGroups_any (mode t l n size : Nat) (w : World) (h : IsPlan mode t l n) (hs : size ≤ 60) :
    Calls Tryd.prog 25 #[.agg #[.int .i64 mode, .int .i64 t, .int .i64 l], .int .i64 size] w fun e w' => e = .returned (.int .i64 (Cof.ngroups mode t l size)) ∧ Below w.heap.size w w' := by
  obtain ⟨h1, h2, h3, h4, h5, h6⟩ := h
  rcases h6 with ⟨rfl, h6⟩ | ⟨rfl, rfl⟩
  · go_enter Tryd.func25, Tryd.ntmps25
    go_wp2
    go_ret
    refine ⟨ret_int ?_, (Below.refl _ _).alloc (Nat.le_refl _) _⟩
    simp only [Cof.ngroups, Cof.gsize]
    have : ((size + l - 1 : Nat) : Int) = (size : Int) + l - 1 := by omega
    simp only [show ¬ (0 = 1) from by decide, if_false]
    rw [Int.natCast_ediv, this]
  · go_enter Tryd.func25, Tryd.ntmps25
    go_wp2
    go_ret
    refine ⟨ret_int ?_, (Below.refl _ _).alloc (Nat.le_refl _) _⟩
    simp only [Cof.ngroups, Cof.gsize]
    have : ((size + t - 1 : Nat) : Int) = (size : Int) + t - 1 := by omega
    simp only [if_true]
    rw [Int.natCast_ediv, this]

set_option maxRecDepth 100000 in
set_option maxHeartbeats 400000 in
theorem short_any (s : ByteArray) (n : Nat) (w : World) (hn : n ≤ 1000) :
    Calls Tryd.prog 20 #[.string s, .int .i64 n] w fun e w' => e = .returned (.string (s.extract 0 n)) ∧ w' = w := by
  by_cases h : n < s.size
  · go_enter Tryd.func20, Tryd.ntmps20
    go_wp2
    go_ret
    exact ⟨rfl, rfl⟩
  · have e : s.extract 0 n = s := by
      apply ByteArray.ext; simp [ByteArray.data_extract]
      have : s.data.size = s.size := rfl
      omega
    have E := hid e
    clear e
    go_enter Tryd.func20, Tryd.ntmps20
    go_wp2
    go_ret
    exact ⟨by rw [E.out]; rfl, rfl⟩

def pMode (m : Int) : Nat := pickN m 2
def pT (t : Int) (n : Nat) : Nat := 1 + pickN t n
def pL (m t l : Int) (n : Nat) : Nat := if pMode m = 0 then 1 + pickN l (n - pT t n + 1) else 1

theorem plan_is (m t l : Int) (n : Nat) (h1 : 1 ≤ n) (h8 : n ≤ 8) : IsPlan (pMode m) (pT t n) (pL m t l n) n := by
  have hm : pMode m < 2 := pickN_lt _ _ (by omega)
  have ht : pickN t n < n := pickN_lt _ _ (by omega)
  have hl : pickN l (n - pT t n + 1) < n - pT t n + 1 := pickN_lt _ _ (by omega)
  have hT : pT t n = 1 + pickN t n := rfl
  refine ⟨h1, h8, by omega, by omega, ?_, ?_⟩
  · unfold pL; split <;> omega
  · unfold pL; split <;> omega

/-- It is an int. -/
def I64 (c : Int) : Prop := -9223372036854775808 ≤ c ∧ c ≤ 9223372036854775807

set_option maxRecDepth 100000 in
set_option maxHeartbeats 1000000 in
theorem plan_any (m t l : Int) (n : Nat) (w : World) (hm : I64 m) (ht : I64 t) (hl : I64 l) (h1 : 1 ≤ n) (h8 : n ≤ 8) :
    Calls Tryd.prog 19 #[.agg #[.int .i64 m, .int .i64 t, .int .i64 l], .int .i64 n] w fun e w' => e = .returned (.agg #[.int .i64 (pMode m), .int .i64 (pT t n), .int .i64 (pL m t l n)]) ∧ Below w.heap.size w w' := by
  have hm2 : pickN m 2 < 2 := pickN_lt _ _ (by omega)
  have ht2 : pickN t n < n := pickN_lt _ _ (by omega)
  go_enter Tryd.func19, Tryd.ntmps19
  go_wp2
  generalize hM : pickN m 2 = M at *
  generalize hT : pickN t n = T at *
  have HM := hid hM
  have HT := hid hT
  clear hM hT
  have hw : IntKind.i64.wrap (1 + (T : Int)) = 1 + (T : Int) := by rw [IntKind.wrap_i64]; omega
  go_region_held3 (fun w' => w'.cell? ⟨w.heap.size, 0, none⟩ = some (.int .i64 m) ∧ w'.cell? ⟨w.heap.size, 1, none⟩ = some (.int .i64 t)) (go_keep)
    (first
      | (go_at_call_of 18 (Value.int .i64 m); refine (pick_any m 2 _ hm.1 hm.2 (by omega) (by omega)).mono ?_; rintro e w1 ⟨rfl, rfl⟩; rw [HM.out])
      | (go_at_call_of 18 (Value.int .i64 t); refine (pick_any t n _ ht.1 ht.2 (by omega) (by omega)).mono ?_; rintro e w1 ⟨rfl, rfl⟩; rw [HT.out]))
  all_goals
    obtain ⟨N, hN⟩ : ∃ N, N = n - T := ⟨_, rfl⟩
    have hNi : (n : Int) - (1 + (T : Int)) + 1 = (N : Int) := by omega
    have hN1 : 0 < N := by omega
    have hN8 : N ≤ 8 := by omega
    have HNN := hid hN
    have hL2 : pickN l N < N := pickN_lt _ _ hN1
    clear hN
    rcases (show M = 0 ∨ M = 1 from by omega) with rfl | rfl
    · go_wp2_with fail
      refine (pick_any l N _ hl.1 hl.2 (by omega) (by omega)).mono ?_
      rintro e w2 ⟨rfl, rfl⟩
      generalize hLL : pickN l N = L at *
      have HLL := hid hLL
      clear hLL
      go_wp2
      refine bodyPost_ret (v := .agg #[.int .i64 (0 : Nat), .int .i64 ((1 + T : Nat) : Int), .int .i64 ((1 + L : Nat) : Int)]) ?_ rfl ⟨?_, ?_⟩
      · simp [results, Tryd.results19, go_sem]
      · have e1 : pMode m = 0 := HM.out
        have e2 : pT t n = 1 + T := by unfold pT; rw [HT.out]
        have e3 : pL m t l n = 1 + L := by
          unfold pL; rw [if_pos e1, e2, show n - (1 + T) + 1 = N from by rw [HNN.out]; omega, HLL.out]
        rw [e1, e2, e3]
      · repeat (first | exact Below.refl _ _ | refine Below.drew ?_ | refine Below.setCell ?_ (by simp; try omega) _ | refine Below.alloc ?_ (by simp; try omega) _)
    · go_wp2_with fail
      refine bodyPost_ret (v := .agg #[.int .i64 (1 : Nat), .int .i64 ((1 + T : Nat) : Int), .int .i64 (1 : Nat)]) ?_ rfl ⟨?_, ?_⟩
      · simp [results, Tryd.results19, go_sem]
      · have e1 : pMode m = 1 := HM.out
        have e2 : pT t n = 1 + T := by unfold pT; rw [HT.out]
        have e3 : pL m t l n = 1 := by
          unfold pL; rw [if_neg (by omega)]
        rw [e1, e2, e3]
      · repeat (first | exact Below.refl _ _ | refine Below.drew ?_ | refine Below.setCell ?_ (by simp; try omega) _ | refine Below.alloc ?_ (by simp; try omega) _)

end Go.Proofs.YtcegdgmbponapaaDoor
