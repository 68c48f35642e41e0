/-
  The walk of cofferlaw.Splits.
-/
import Derived.Test.YtcegdgmbponapaaDoorWBook
import Derived.BigQuiet
namespace Go.Proofs.YtcegdgmbponapaaDoor
open Go.RowKit
attribute [local go_sem ↓] Go.wp_at_zero Go.wp_at_succ

theorem Rd.of_blocks {w w' : World} {a : Option Addr} {cs : List Value} (h : Rd w a cs) (hz : w.heap.size ≤ w'.heap.size) (hb : ∀ ad, a = some ad → w'.heap[ad.block]? = w.heap[ad.block]?) : Rd w' a cs := by
  intro k v hk
  obtain ⟨b, o, h1, h2, h3⟩ := h k v hk
  exact ⟨b, o, h1, by omega, (World.cell?_of_block (a := ⟨b, o + k, none⟩) (hb ⟨b, o, none⟩ h1)).trans h3⟩

set_option maxRecDepth 100000 in
set_option maxHeartbeats 1000000 in
theorem splits_core (v : ByteArray) (m t l n : Int) (tape : ByteArray) (nn : Nat) (k : Int) (rows : List (List UInt8)) (w : World) (hT : Tab w) (hg : ErrType w) (hnn : nn ≤ 8) (hrl : nn = rows.length)
    (hS : ∀ w, Tab w → ErrType w → Calls Tryd.prog 8 #[.string v, .agg #[.int .i64 m, .int .i64 t, .int .i64 l], .int .i64 n, .string tape] w fun e w' => ∃ ao, e = .returned (.tuple #[.slice ao nn nn, .int .i64 k]) ∧ w'.ownsRow w.heap.size 9 1 (.slice ao nn nn) nn (strs rows) ∧ (ao = none → nn = 0) ∧ Below w.heap.size w w')
    (hF : ∀ w, Calls Tryd.prog 9 #[.string v, .agg #[.int .i64 m, .int .i64 t, .int .i64 l], .int .i64 n, .string tape] w fun e w' => ∃ r, e = .returned (.tuple #[r, .int .i64 k]) ∧ w'.ownsRow w.heap.size 9 1 r nn (strs rows) ∧ Below w.heap.size w w') :
    Calls Tryd.prog 3 #[.string v, .agg #[.int .i64 m, .int .i64 t, .int .i64 l], .int .i64 n, .string tape] w fun e w' => e = .returned (.bool true) ∧ Below w.heap.size w w' := by
  obtain ⟨w0, hw0⟩ : ∃ w0, w0 = w.alloc (.cells #[.int .i64 m, .int .i64 t, .int .i64 l] 23) := ⟨_, rfl⟩
  have p0 : w0.cell? ⟨w.heap.size, 0, none⟩ = some (.int .i64 m) := by rw [hw0]; simp
  have p1 : w0.cell? ⟨w.heap.size, 1, none⟩ = some (.int .i64 t) := by rw [hw0]; simp
  have p2 : w0.cell? ⟨w.heap.size, 2, none⟩ = some (.int .i64 l) := by rw [hw0]; simp
  have hz0 : w.heap.size < w0.heap.size := by rw [hw0]; simp
  have hb0 : Below w.heap.size w w0 := by rw [hw0]; exact (Below.refl _ _).alloc (Nat.le_refl _) _
  have HT0 := hid (hT.keeps hb0 (Nat.le_refl _))
  have HG0 := hid (hg.keeps hb0 (Nat.le_refl _))
  have HS := hid hS
  have HF := hid hF
  have HRL := hid hrl
  clear hT hg hS hF hrl
  go_enter Tryd.func3, Tryd.ntmps3
  go_wp2_with fail
  rw [← hw0]
  clear hw0
  refine (HS.out w0 HT0.out HG0.out).mono ?_
  rintro e w1 ⟨ao, rfl, hown1, hno, hb1⟩
  have hz1 := hb1.size
  have HNO := hid hno
  have HO1 := hid hown1
  have x0 : w1.cell? ⟨w.heap.size, 0, none⟩ = some (.int .i64 m) := (hb1.cell (by exact hz0)).trans p0
  have x1 : w1.cell? ⟨w.heap.size, 1, none⟩ = some (.int .i64 t) := (hb1.cell (by exact hz0)).trans p1
  have x2 : w1.cell? ⟨w.heap.size, 2, none⟩ = some (.int .i64 l) := (hb1.cell (by exact hz0)).trans p2
  clear hno hown1
  go_wp2_with fail
  refine (HF.out w1).mono ?_
  rintro e w2 ⟨r, rfl, hown2, hb2⟩
  have hz2 := hb2.size
  obtain ⟨a2, c2, rfl, hrd2⟩ := owns_any_rd hown2
  have hblk2 : ∀ ad, a2 = some ad → w1.heap.size ≤ ad.block ∧ ad.block < w2.heap.size := fun ad h => by
    rcases hown2.2 with ⟨h1, _⟩ | ⟨g, cap, cur, h1, h2, h3, _⟩
    · injection h1 with h1; rw [h1] at h; cases h
    · injection h1 with h1; rw [h1] at h; cases h
      refine ⟨h2, ?_⟩
      rcases Nat.lt_or_ge g w2.heap.size with h4 | h4
      · exact h4
      · rw [Array.getElem?_eq_none h4] at h3; cases h3
  have HBK := hid hblk2
  have HR2 := hid hrd2
  have HO2 := hid (owns_below HO1.out hb2 (Nat.le_refl _))
  obtain ⟨a1', c1', e1, hrd1⟩ := owns_any_rd HO2.out
  obtain rfl : ao = a1' := by injection e1
  have HR1 := hid hrd1
  have hb02 : Below w0.heap.size w0 w2 := hb1.trans (hb2.mono hz1)
  clear hown2 hrd2 hrd1 e1 hblk2
  go_wp2_with fail
  refine (sameTexts_any ao a2 nn nn c2 rows _ HRL.out HR1.out HR2.out (by omega)).mono ?_
  rintro e w3 ⟨rfl, hb3⟩
  have hz3 := hb3.size
  go_wp2_with (first | (go_at_call 11; refine (num_any k _).mono ?_; rintro e w3' ⟨rfl, rfl⟩))
  have hb4 := (Below.refl w3'.heap.size w3').alloc (Nat.le_refl _) (.cells #[.slice none 0 0, .slice none 0 0] 35)
  have hb24 : Below w2.heap.size w2 (w3'.alloc (.cells #[.slice none 0 0, .slice none 0 0] 35)) := hb3.trans (hb4.mono hz3)
  have hgo : ∀ g, ao = some ⟨g, 0, none⟩ → w0.heap.size ≤ g ∧ g < w1.heap.size := fun g h => by
    rcases HO1.out.2 with ⟨h1, _⟩ | ⟨g', cap, cur, h1, h2, h3, _⟩
    · injection h1 with h1; rw [h1] at h; cases h
    · injection h1 with h1; rw [h1] at h; cases h
      refine ⟨h2, ?_⟩
      rcases Nat.lt_or_ge g w1.heap.size with h4 | h4
      · exact h4
      · rw [Array.getElem?_eq_none h4] at h3; cases h3
  have HGO := hid hgo
  obtain ⟨w4, hw4⟩ : ∃ w4, w4 = w3'.alloc (.cells #[.slice none 0 0, .slice none 0 0] 35) := ⟨_, rfl⟩
  have hz4 : w3'.heap.size < w4.heap.size := by rw [hw4]; simp
  have d0 : w4.cell? ⟨w3'.heap.size, 0, none⟩ = some (.slice none 0 0) := by rw [hw4]; simp
  have d1 : w4.cell? ⟨w3'.heap.size, 1, none⟩ = some (.slice none 0 0) := by rw [hw4]; simp
  have df : w4.frozen? ⟨w3'.heap.size, 0, none⟩ = false := by rw [hw4]; simp
  rw [← hw4] at hb24 ⊢
  clear hw4 hb4 hgo
  have hb04 : Below w0.heap.size w0 w4 := hb02.trans (hb24.mono (by omega))
  refine (keepTexts_any w3'.heap.size nn w0.heap.size ao (strs rows) w4 hnn (owns_below HO2.out hb24 (Nat.le_refl _)) (by omega) HNO.out (fun g h => by have := HGO.out g h; omega) d0 d1 df hz4 (by omega)).mono ?_
  rintro e w5 ⟨rfl, hkept, hb5, hfr⟩
  have hb05 : Below w0.heap.size w0 w5 := hb04.trans hb5
  have hz5 := hb5.size
  have HKP := hid hkept
  have y0 : w5.cell? ⟨w.heap.size, 0, none⟩ = some (.int .i64 m) := (hb05.cell (by exact hz0)).trans p0
  have y1 : w5.cell? ⟨w.heap.size, 1, none⟩ = some (.int .i64 t) := (hb05.cell (by exact hz0)).trans p1
  have y2 : w5.cell? ⟨w.heap.size, 2, none⟩ = some (.int .i64 l) := (hb05.cell (by exact hz0)).trans p2
  have HR5 := hid (Rd.of_blocks (HR2.out.below hb24 (Nat.le_refl _)) hz5 (fun ad h => by
    have h1 := HBK.out ad h
    refine hfr ad.block (by omega) (by omega) (fun h2 => ?_)
    have h3 := HGO.out _ h2
    omega))
  have HT5 := hid (HT0.out.keeps hb05 (Nat.le_refl _))
  have HG5 := hid (HG0.out.keeps hb05 (Nat.le_refl _))
  clear hkept hfr d0 d1 df x0 x1 x2 p0 p1 p2
  go_wp2_with fail
  refine (HS.out w5 HT5.out HG5.out).mono ?_
  rintro e w6 ⟨a6, rfl, hown6, _, hb6⟩
  have hz6 := hb6.size
  obtain ⟨a6', c6', e1, hrd6⟩ := owns_any_rd hown6
  obtain rfl : a6 = a6' := by injection e1
  have HR6 := hid hrd6
  clear hown6 e1 hrd6
  go_wp2_with fail
  refine (sameTexts_any a6 a2 nn nn c2 rows _ HRL.out HR6.out (HR5.out.below hb6 (Nat.le_refl _)) (by omega)).mono ?_
  rintro e w7 ⟨rfl, hb7⟩
  have hz7 := hb7.size
  go_wp2_with fail
  refine (reads_any w3'.heap.size nn w7 hnn ((HKP.out.below hb6 (Nat.le_refl _)).below hb7 (Nat.le_refl _))).mono ?_
  rintro e w8 ⟨rfl, hb8⟩
  have hb08 : Below w.heap.size w w8 := ((((hb0.trans (hb05.mono (by omega))).trans (hb6.mono (by omega))).trans (hb7.mono (by omega))).trans (hb8.mono (by omega)))
  go_wp2
  go_ret
  exact ⟨rfl, hb08⟩

theorem splits_any (v : ByteArray) (m t l n : Int) (tape : ByteArray) (w : World) (hT : Tab w) (hg : ErrType w) (hv : v.size ≤ maxLen) (hm : I64 m) (ht : I64 t) (hl : I64 l) (hn : I64 n) :
    Calls Tryd.prog 3 #[.string v, .agg #[.int .i64 m, .int .i64 t, .int .i64 l], .int .i64 n, .string tape] w fun e w' => e = .returned (.bool true) ∧ Below w.heap.size w w' := by
  have nope : ∀ (k : Int),
      (∀ w, Tab w → Calls Tryd.prog 29 #[.string v, .agg #[.int .i64 m, .int .i64 t, .int .i64 l], .int .i64 n, .string tape] w fun e w' => ∃ ev, e = .returned (.tuple #[.slice none 0 0, ev]) ∧ Chain w' k 2 ev ∧ Below w.heap.size w w') →
      (∀ w, Calls Tryd.prog 9 #[.string v, .agg #[.int .i64 m, .int .i64 t, .int .i64 l], .int .i64 n, .string tape] w fun e w' => e = .returned (.tuple #[.slice none 0 0, .int .i64 k]) ∧ Below w.heap.size w w') →
      Calls Tryd.prog 3 #[.string v, .agg #[.int .i64 m, .int .i64 t, .int .i64 l], .int .i64 n, .string tape] w fun e w' => e = .returned (.bool true) ∧ Below w.heap.size w w' := fun k h1 h2 => by
    refine splits_core v m t l n tape 0 k [] w hT hg (by omega) rfl (fun w hT hg => ?_) (fun w => ?_)
    · refine (split_refused m t l n v tape k w hT hg h1).mono ?_
      rintro e w' ⟨rfl, hb⟩
      exact ⟨none, rfl, World.ownsRow_nil _ _ _ _, fun _ => rfl, hb⟩
    · refine (h2 w).mono ?_
      rintro e w' ⟨rfl, hb⟩
      exact ⟨_, rfl, World.ownsRow_nil _ _ _ _, hb⟩
  have hvi : I64 (v.size : Int) := by unfold I64; unfold maxLen at hv; omega
  by_cases hp : 1 ≤ n ∧ n ≤ 8 ∧ Fits m t l n
  · obtain ⟨h1, h2, h3⟩ := hp
    obtain ⟨mode, T, L, N, rfl, rfl, rfl, rfl, hpl⟩ := h3.plan h1 h2
    by_cases hv60 : v.size ≤ 60
    · by_cases hsh : tape.size < Cof.tsize mode T * Cof.ngroups mode T L v.size
      · exact nope 7 (fun w hT => cutSplit_tape mode T L N v tape w hT hpl hv60 hsh) (fun w => rsplit_tape mode T L N v tape w hpl hv60 hsh)
      · refine splits_core v mode T L N tape N 0 (Cof.split v.data.toList mode T L N tape.data.toList) w hT hg (by omega) (split_length _ _ _ _ _ _).symm (fun w _ _ => ?_) (fun w => rsplit_ok mode T L N v tape w hpl hv60 (by omega))
        refine (split_ok mode T L N v tape w hpl hv60 (by omega)).mono ?_
        rintro e w' ⟨g, rfl, hown, hb⟩
        exact ⟨_, rfl, hown, fun h => by (cases h), hb⟩
    · exact nope 4 (fun w hT => cutSplit_refused _ _ _ _ v tape 4 w hT (fun w hT => layoutFor_big mode T L N v.size w hpl hvi (.inr (by omega)) hT)) (fun w => rsplit_big mode T L N v tape w hpl (by omega))
  · exact nope 3 (fun w hT => cutSplit_refused m t l n v tape 3 w hT (fun w hT => layoutFor_noplan m t l n v.size w hm ht hl hn hp hT)) (fun w => rsplit_noplan m t l n v tape w hm ht hl hn hp)
end Go.Proofs.YtcegdgmbponapaaDoor
