/-
  The walks of cofferref.group, Groups, Tape, Threshold, IsPlan and known.
-/
import Derived.Test.YtcegdgmbponapaaDoorWRefAt
import Derived.Test.YtcegdgmbponapaaDoorJoinMath
import Derived.Test.YtcegdgmbponapaaDoorWFail
import Derived.BigQuiet
namespace Go.Proofs.YtcegdgmbponapaaDoor
open Go.RowKit
attribute [local go_sem ↓] Go.wp_at_zero Go.wp_at_succ

set_option maxRecDepth 100000 in
theorem rgroup_any (mode t l n : Nat) (w : World) (h : IsPlan mode t l n) :
    Calls Tryd.prog 59 #[.agg #[.int .i64 mode, .int .i64 t, .int .i64 l]] w fun e w' => e = .returned (.int .i64 (Cof.gsize mode t l)) ∧ Below w.heap.size w w' := by
  obtain ⟨_, _, _, _, _, h6⟩ := h
  rcases h6 with ⟨rfl, h6⟩ | ⟨rfl, rfl⟩
  · go_enter Tryd.func59, Tryd.ntmps59
    go_wp2
    go_ret
    exact ⟨rfl, (Below.refl _ _).alloc (Nat.le_refl _) _⟩
  · go_enter Tryd.func59, Tryd.ntmps59
    go_wp2
    go_ret
    exact ⟨rfl, (Below.refl _ _).alloc (Nat.le_refl _) _⟩

set_option maxRecDepth 100000 in
theorem rgroups_any (mode t l n size : Nat) (w : World) (h : IsPlan mode t l n) (hs : size ≤ 60) :
    Calls Tryd.prog 38 #[.agg #[.int .i64 mode, .int .i64 t, .int .i64 l], .int .i64 size] w fun e w' => e = .returned (.int .i64 (Cof.ngroups mode t l size)) ∧ Below w.heap.size w w' := by
  have hg1 : 1 ≤ Cof.gsize mode t l := by have := h.t1; have := h.l1; unfold Cof.gsize; split <;> omega
  have hg2 : Cof.gsize mode t l ≤ 8 := by obtain ⟨_, _, _, _, _, h6⟩ := h; unfold Cof.gsize; split <;> omega
  have HN : Hid (Cof.ngroups mode t l size = (size + Cof.gsize mode t l - 1) / Cof.gsize mode t l) := rfl
  have hba := (Below.refl w.heap.size w).alloc (Nat.le_refl _) (.cells #[.int .i64 mode, .int .i64 t, .int .i64 l] 23)
  go_enter Tryd.func38, Tryd.ntmps38
  go_wp2_with fail
  refine (rgroup_any mode t l n _ h).mono ?_
  rintro e w1 ⟨rfl, hb1⟩
  generalize Cof.gsize mode t l = gs at *
  go_wp2
  go_ret
  refine ⟨ret_int ?_, hba.trans (hb1.mono (by simp))⟩
  rw [HN.out]; have : ((size + gs - 1 : Nat) : Int) = (size : Int) + gs - 1 := by omega
  rw [Int.natCast_ediv, this]

set_option maxRecDepth 100000 in
theorem rtape_any (mode t l n size : Nat) (w : World) (h : IsPlan mode t l n) (hs : size ≤ 60) :
    Calls Tryd.prog 33 #[.agg #[.int .i64 mode, .int .i64 t, .int .i64 l], .int .i64 size] w fun e w' => e = .returned (.int .i64 ((Cof.tsize mode t * Cof.ngroups mode t l size : Nat) : Int)) ∧ Below w.heap.size w w' := by
  have hng := ngroups_le h size hs
  have hba := (Below.refl w.heap.size w).alloc (Nat.le_refl _) (.cells #[.int .i64 mode, .int .i64 t, .int .i64 l] 23)
  have HP := hid h
  obtain ⟨h1, h2, h3, h4, h5, h6⟩ := h
  rcases h6 with ⟨rfl, h6⟩ | ⟨rfl, rfl⟩
  · obtain ⟨u, rfl⟩ : ∃ u, t = u + 1 := ⟨t - 1, by omega⟩
    have hw : IntKind.i64.wrap (u : Int) = u := by rw [IntKind.wrap_i64]; omega
    obtain ⟨G, hG⟩ : ∃ G, G = Cof.ngroups 0 (u + 1) l size := ⟨_, rfl⟩
    rw [← hG] at hng ⊢
    have HG := hid hG
    clear hG
    obtain ⟨Q, hQ⟩ : ∃ Q, Q = u * G := ⟨_, rfl⟩
    have hQi : (u : Int) * (G : Int) = (Q : Int) := by rw [hQ]; simp
    have hQ8 : Q ≤ 8 * 60 := by rw [hQ]; exact Nat.mul_le_mul (by omega) hng
    have HQ := hid hQ
    have hwQ : IntKind.i64.wrap (Q : Int) = Q := by rw [IntKind.wrap_i64]; omega
    clear hQ
    have HGR := hid (fun w => show Calls Tryd.prog 38 #[.agg #[.int .i64 0, .int .i64 ((u : Int) + 1), .int .i64 l], .int .i64 size] w (fun e w' => e = .returned (.int .i64 G) ∧ Below w.heap.size w w') by
      have h := rgroups_any 0 (u + 1) l n size w HP.out hs
      rw [← HG.out] at h
      exact h)
    go_enter Tryd.func33, Tryd.ntmps33
    go_wp2_with fail
    go_region_held3 (fun w' => w'.cell? ⟨w.heap.size, 0, none⟩ = some (.int .i64 0) ∧ w'.cell? ⟨w.heap.size, 1, none⟩ = some (.int .i64 ((u : Int) + 1)) ∧ w'.cell? ⟨w.heap.size, 2, none⟩ = some (.int .i64 l)) (first | exact ⟨x0, x1, x2⟩ | go_keep)
      ((go_at_call 38; refine (HGR.out _).mono ?_; rintro e w1 ⟨rfl, hb1⟩; have hb01 : Below w.heap.size w w1 := ((hba.drew).trans (hb1.mono (by simp))); have hc := (bcell hb1).1; have x0 : w1.cell? ⟨w.heap.size, 0, none⟩ = some (.int .i64 0) := (hc _ _ (by simp)).trans (by simp); have x1 : w1.cell? ⟨w.heap.size, 1, none⟩ = some (.int .i64 ((u : Int) + 1)) := (hc _ _ (by simp)).trans (by simp); have x2 : w1.cell? ⟨w.heap.size, 2, none⟩ = some (.int .i64 l) := (hc _ _ (by simp)).trans (by simp)))
    go_wp2
    go_ret
    exact ⟨ret_int (by rw [HQ.out]; simp [Cof.tsize]), hb01⟩
  · go_enter Tryd.func33, Tryd.ntmps33
    go_wp2
    go_ret
    exact ⟨ret_int (by simp [Cof.tsize]), hba⟩

set_option maxRecDepth 100000 in
set_option maxHeartbeats 1000000 in
theorem risplan_ok (mode t l n : Nat) (w : World) (h : IsPlan mode t l n) :
    Calls Tryd.prog 32 #[.agg #[.int .i64 mode, .int .i64 t, .int .i64 l], .int .i64 n] w fun e w' => e = .returned (.bool true) ∧ Below w.heap.size w w' := by
  have hba := (Below.refl w.heap.size w).alloc (Nat.le_refl _) (.cells #[.int .i64 mode, .int .i64 t, .int .i64 l] 23)
  obtain ⟨h1, h2, h3, h4, h5, h6⟩ := h
  rcases h6 with ⟨rfl, h6⟩ | ⟨rfl, rfl⟩
  · go_enter Tryd.func32, Tryd.ntmps32
    go_wp2
    go_ret
    exact ⟨congrArg (fun b => Ending.returned (.bool b)) (decide_eq_true (by omega)), hba⟩
  · go_enter Tryd.func32, Tryd.ntmps32
    go_wp2
    go_ret
    exact ⟨rfl, hba⟩

set_option maxRecDepth 100000 in
set_option maxHeartbeats 1000000 in
theorem risplan_bad (m t l n : Int) (w : World) (hm : I64 m) (ht : I64 t) (hl : I64 l) (hn : I64 n) (h : ¬ (1 ≤ n ∧ n ≤ 8 ∧ Fits m t l n)) :
    Calls Tryd.prog 32 #[.agg #[.int .i64 m, .int .i64 t, .int .i64 l], .int .i64 n] w fun e w' => e = .returned (.bool false) ∧ Below w.heap.size w w' := by
  have hba := (Below.refl w.heap.size w).alloc (Nat.le_refl _) (.cells #[.int .i64 m, .int .i64 t, .int .i64 l] 23)
  obtain ⟨hm1, hm2⟩ := hm
  obtain ⟨ht1, ht2⟩ := ht
  obtain ⟨hl1, hl2⟩ := hl
  obtain ⟨hn1, hn2⟩ := hn
  have hh : n < 1 ∨ 1 ≤ n ∧ 8 < n ∨ (1 ≤ n ∧ n ≤ 8) ∧ (t < 1 ∨ 1 ≤ t ∧ n < t ∨ (1 ≤ t ∧ t ≤ n) ∧ (l < 1 ∨ 1 ≤ l ∧ n < l ∨ (1 ≤ l ∧ l ≤ n) ∧ (m = 0 ∧ n < t + l - 1 ∨ m = 1 ∧ l ≠ 1 ∨ m ≠ 0 ∧ m ≠ 1))) := by
    unfold Fits at h; omega
  clear h
  rcases hh with h | ⟨h, h'⟩ | ⟨⟨h1, h2⟩, h | ⟨h, h'⟩ | ⟨⟨h3, h4⟩, h | ⟨h, h'⟩ | ⟨⟨h5, h6⟩, ⟨rfl, h⟩ | ⟨rfl, h⟩ | ⟨h, h'⟩⟩⟩⟩
  · go_enter Tryd.func32, Tryd.ntmps32
    go_wp2
    go_ret
    exact ⟨rfl, hba⟩
  · go_enter Tryd.func32, Tryd.ntmps32
    go_wp2
    go_ret
    exact ⟨rfl, hba⟩
  · go_enter Tryd.func32, Tryd.ntmps32
    go_wp2
    go_ret
    exact ⟨rfl, hba⟩
  · go_enter Tryd.func32, Tryd.ntmps32
    go_wp2
    go_ret
    exact ⟨rfl, hba⟩
  · go_enter Tryd.func32, Tryd.ntmps32
    go_wp2
    go_ret
    exact ⟨rfl, hba⟩
  · go_enter Tryd.func32, Tryd.ntmps32
    go_wp2
    go_ret
    exact ⟨rfl, hba⟩
  · go_enter Tryd.func32, Tryd.ntmps32
    go_wp2
    go_ret
    exact ⟨congrArg (fun b => Ending.returned (.bool b)) (decide_eq_false (by omega)), hba⟩
  · go_enter Tryd.func32, Tryd.ntmps32
    go_wp2
    go_ret
    exact ⟨congrArg (fun b => Ending.returned (.bool b)) (beq_eq_false_iff_ne.2 h), hba⟩
  · go_enter Tryd.func32, Tryd.ntmps32
    go_wp2
    go_ret
    exact ⟨rfl, hba⟩
end Go.Proofs.YtcegdgmbponapaaDoor
