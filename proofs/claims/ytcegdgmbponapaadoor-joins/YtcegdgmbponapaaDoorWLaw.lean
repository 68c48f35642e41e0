/-
  The walks of cofferlaw.text, sameTexts, num; of cofferref.Split.
-/
import Derived.Test.YtcegdgmbponapaaDoorWRefPieces
import Derived.Test.YtcegdgmbponapaaDoorWSplitNo
import Derived.ArgAppend
import Derived.BigQuiet
namespace Go.Proofs.YtcegdgmbponapaaDoor
open Go.RowKit
attribute [local go_sem ↓] Go.wp_at_zero Go.wp_at_succ

/-- The mark of the first lists. -/
def mark : ByteArray := ⟨#[63, 0, 0]⟩

set_option maxRecDepth 100000 in
theorem text_zero (w : World) : Calls Tryd.prog 35 #[.int .i64 0] w fun e w' => e = .returned (.string mark) ∧ Below w.heap.size w w' := by
  have hr : Rd (w.alloc (.cells #[.int .u8 63, .int .u8 0, .int .u8 0] 5)) (some ⟨w.heap.size, 0, none⟩) (bs [63, 0, 0]) := by
    intro k v hk
    have h3 : k < 3 := by
      rcases Nat.lt_or_ge k 3 with h | h
      · exact h
      · rw [List.getElem?_eq_none (by simpa [bs] using h)] at hk; cases hk
    refine ⟨w.heap.size, 0, rfl, by simp, ?_⟩
    have : k = 0 ∨ k = 1 ∨ k = 2 := by omega
    rcases this with rfl | rfl | rfl <;> (simp [bs] at hk; subst hk; simp)
  have hcv := conv_string _ _ 3 3 [63, 0, 0] rfl hr
  have hm : (⟨([63, 0, 0] : List UInt8).toArray⟩ : ByteArray) = mark := rfl
  rw [hm] at hcv
  have hba := (Below.refl w.heap.size w).alloc (Nat.le_refl _) (.cells #[.int .u8 63, .int .u8 0, .int .u8 0] 5)
  clear hr hm
  generalize mark = M at *
  go_enter Tryd.func35, Tryd.ntmps35
  go_wp2
  go_ret
  exact ⟨rfl, hba⟩

set_option maxRecDepth 100000 in
theorem num_any (z : Int) (w : World) : Calls Tryd.prog 11 #[.int .i64 z] w fun e w' => e = .returned (.int .i64 z) ∧ w' = w := by
  go_enter Tryd.func11, Tryd.ntmps11
  go_wp2
  go_ret
  exact ⟨rfl, rfl⟩

theorem strs_get (rows : List (List UInt8)) (k : Nat) (h : k < rows.length) : (strs rows)[k]? = some (str (rows.getD k [])) := by simp [strs, h]

set_option maxRecDepth 100000 in
set_option maxHeartbeats 400000 in
theorem sameTexts_any (a b : Option Addr) (n ca cb : Nat) (rows : List (List UInt8)) (w : World) (en : n = rows.length) (ha : Rd w a (strs rows)) (hb : Rd w b (strs rows)) (hn : n ≤ 100) :
    Calls Tryd.prog 10 #[.slice a n ca, .slice b n cb] w fun e w' => e = .returned (.bool true) ∧ Below w.heap.size w w' := by
  have EN := hid en
  have HA := hid ha
  have HB := hid hb
  clear en ha hb
  go_enter Tryd.func10, Tryd.ntmps10
  go_wp2_with fail
  go_loopw [5] (fun i wr => ∃ k : Nat, k ≤ n ∧ i = .int .i64 k ∧ Below w.heap.size w wr)
    (fun i _ => n - (intOf i).toNat)
  case atStart => exact ⟨0, Nat.zero_le _, rfl, Below.refl _ _⟩
  case round =>
    obtain ⟨k, hk, rfl, hbel⟩ := hrel
    by_cases hlt : k < n
    · have hkr : k < rows.length := by rw [← EN.out]; exact hlt
      obtain ⟨b1, o1, rfl, hb1, h1⟩ := HA.out k _ (strs_get rows k hkr)
      obtain ⟨b2, o2, rfl, hb2, h2⟩ := HB.out k _ (strs_get rows k hkr)
      obtain ⟨p, hp⟩ : ∃ p : ByteArray, str (rows.getD k []) = .string p := ⟨_, rfl⟩
      rw [hp] at h1 h2
      have c1 := (hbel.cell (p := ⟨b1, o1 + k, none⟩) (by exact hb1)).trans h1
      have c2 := (hbel.cell (p := ⟨b2, o2 + k, none⟩) (by exact hb2)).trans h2
      have hk1 : (k : Int) < (n : Int) := by omega
      have hk0 : (0 : Int) ≤ (k : Int) := by omega
      clear h1 h2 hp
      go_wp2_with fail
      go_region
      all_goals
        go_wp2
        go_roundw
        case rel => exact ⟨k + 1, by omega, by go_num, hbel.drew⟩
        case measure => simp [intOf]; omega
    · have hk1 : ¬ (k : Int) < (n : Int) := by omega
      go_wp2
      go_ret
      exact ⟨rfl, hbel⟩

set_option maxRecDepth 100000 in
set_option maxHeartbeats 400000 in
theorem rsplit_noplan (m t l n : Int) (v tape : ByteArray) (w : World) (hm : I64 m) (ht : I64 t) (hl : I64 l) (hn : I64 n) (h : ¬ (1 ≤ n ∧ n ≤ 8 ∧ Fits m t l n)) :
    Calls Tryd.prog 9 #[.string v, .agg #[.int .i64 m, .int .i64 t, .int .i64 l], .int .i64 n, .string tape] w fun e w' => e = .returned (.tuple #[.slice none 0 0, .int .i64 3]) ∧ Below w.heap.size w w' := by
  have hba := (Below.refl w.heap.size w).alloc (Nat.le_refl _) (.cells #[.int .i64 m, .int .i64 t, .int .i64 l] 23)
  have HH := hid (fun w => risplan_bad m t l n w hm ht hl hn h)
  clear h hm ht hl hn
  go_enter Tryd.func9, Tryd.ntmps9
  go_wp2_with (go_at_call 32; refine (HH.out _).mono ?_; rintro e w1 ⟨rfl, hb1⟩)
  go_ret2
  exact ⟨rfl, hba.trans (hb1.mono (by simp))⟩

set_option maxRecDepth 100000 in
set_option maxHeartbeats 400000 in
theorem rsplit_big (mode t l n : Nat) (v tape : ByteArray) (w : World) (h : IsPlan mode t l n) (hv : 60 < v.size) :
    Calls Tryd.prog 9 #[.string v, .agg #[.int .i64 mode, .int .i64 t, .int .i64 l], .int .i64 n, .string tape] w fun e w' => e = .returned (.tuple #[.slice none 0 0, .int .i64 4]) ∧ Below w.heap.size w w' := by
  have hba := (Below.refl w.heap.size w).alloc (Nat.le_refl _) (.cells #[.int .i64 mode, .int .i64 t, .int .i64 l] 23)
  have HH := hid (fun w => risplan_ok mode t l n w h)
  have hv1 : (60 : Int) < (v.size : Int) := by omega
  clear h
  go_enter Tryd.func9, Tryd.ntmps9
  go_wp2_with (go_at_call 32; refine (HH.out _).mono ?_; rintro e w1 ⟨rfl, hb1⟩)
  go_ret2
  exact ⟨rfl, hba.trans (hb1.mono (by simp))⟩

set_option maxRecDepth 100000 in
set_option maxHeartbeats 400000 in
theorem rsplit_tape (mode t l n : Nat) (v tape : ByteArray) (w : World) (h : IsPlan mode t l n) (hv : v.size ≤ 60) (hsh : tape.size < Cof.tsize mode t * Cof.ngroups mode t l v.size) :
    Calls Tryd.prog 9 #[.string v, .agg #[.int .i64 mode, .int .i64 t, .int .i64 l], .int .i64 n, .string tape] w fun e w' => e = .returned (.tuple #[.slice none 0 0, .int .i64 7]) ∧ Below w.heap.size w w' := by
  have hba := (Below.refl w.heap.size w).alloc (Nat.le_refl _) (.cells #[.int .i64 mode, .int .i64 t, .int .i64 l] 23)
  have HH := hid (fun w => risplan_ok mode t l n w h)
  have HT := hid (fun w => rtape_any mode t l n v.size w h hv)
  generalize Cof.tsize mode t * Cof.ngroups mode t l v.size = need at *
  have hv1 : ¬ (60 : Int) < (v.size : Int) := by omega
  have hs1 : (tape.size : Int) < (need : Int) := by omega
  clear h
  go_enter Tryd.func9, Tryd.ntmps9
  go_wp2_with fail
  refine (HH.out _).mono ?_
  rintro e w1 ⟨rfl, hb1⟩
  have hc := (bcell hb1).1
  have p0 : w1.cell? ⟨w.heap.size, 0, none⟩ = some (.int .i64 mode) := (hc _ _ (by simp)).trans (by simp)
  have p1 : w1.cell? ⟨w.heap.size, 1, none⟩ = some (.int .i64 t) := (hc _ _ (by simp)).trans (by simp)
  have p2 : w1.cell? ⟨w.heap.size, 2, none⟩ = some (.int .i64 l) := (hc _ _ (by simp)).trans (by simp)
  have hb01 : Below w.heap.size w w1 := hba.trans (hb1.mono (by simp))
  clear hc hb1
  go_wp2_with (go_at_call 33; refine (HT.out _).mono ?_; rintro e w2 ⟨rfl, hb2⟩)
  go_ret2
  exact ⟨rfl, hb01.trans (hb2.mono hb01.size)⟩

set_option maxRecDepth 100000 in
set_option maxHeartbeats 400000 in
theorem rsplit_ok (mode t l n : Nat) (v tape : ByteArray) (w : World) (h : IsPlan mode t l n) (hv : v.size ≤ 60) (htp : Cof.tsize mode t * Cof.ngroups mode t l v.size ≤ tape.size) :
    Calls Tryd.prog 9 #[.string v, .agg #[.int .i64 mode, .int .i64 t, .int .i64 l], .int .i64 n, .string tape] w fun e w' =>
      ∃ r, e = .returned (.tuple #[r, .int .i64 0]) ∧ w'.ownsRow w.heap.size 9 1 r n (strs (Cof.split v.data.toList mode t l n tape.data.toList)) ∧ Below w.heap.size w w' := by
  have hba := (Below.refl w.heap.size w).alloc (Nat.le_refl _) (.cells #[.int .i64 mode, .int .i64 t, .int .i64 l] 23)
  have HH := hid (fun w => risplan_ok mode t l n w h)
  have HT := hid (fun w => rtape_any mode t l n v.size w h hv)
  have HP := hid (fun w => rpieces_any mode t l n v tape w h hv htp)
  generalize Cof.tsize mode t * Cof.ngroups mode t l v.size = need at *
  generalize strs (Cof.split v.data.toList mode t l n tape.data.toList) = S at *
  have hv1 : ¬ (60 : Int) < (v.size : Int) := by omega
  have hs1 : ¬ (tape.size : Int) < (need : Int) := by omega
  clear h
  go_enter Tryd.func9, Tryd.ntmps9
  go_wp2_with fail
  refine (HH.out _).mono ?_
  rintro e w1 ⟨rfl, hb1⟩
  have hc := (bcell hb1).1
  have p0 : w1.cell? ⟨w.heap.size, 0, none⟩ = some (.int .i64 mode) := (hc _ _ (by simp)).trans (by simp)
  have p1 : w1.cell? ⟨w.heap.size, 1, none⟩ = some (.int .i64 t) := (hc _ _ (by simp)).trans (by simp)
  have p2 : w1.cell? ⟨w.heap.size, 2, none⟩ = some (.int .i64 l) := (hc _ _ (by simp)).trans (by simp)
  have hb01 : Below w.heap.size w w1 := hba.trans (hb1.mono (by simp))
  have hz1 : w.heap.size < w1.heap.size := by have := hb1.size; simp at this; omega
  clear hc hb1
  go_wp2_with fail
  refine (HT.out _).mono ?_
  rintro e w2 ⟨rfl, hb2⟩
  have hz2 := hb2.size
  have x0 : w2.cell? ⟨w.heap.size, 0, none⟩ = some (.int .i64 mode) := (hb2.cell (by exact hz1)).trans p0
  have x1 : w2.cell? ⟨w.heap.size, 1, none⟩ = some (.int .i64 t) := (hb2.cell (by exact hz1)).trans p1
  have x2 : w2.cell? ⟨w.heap.size, 2, none⟩ = some (.int .i64 l) := (hb2.cell (by exact hz1)).trans p2
  go_wp2_with (go_at_call 34; refine (HP.out _).mono ?_; rintro e w3 ⟨r, rfl, hown, hb3⟩)
  go_ret2
  exact ⟨_, rfl, owns_base hown (by omega), (hb01.trans (hb2.mono hb01.size)).trans (hb3.mono (by omega))⟩
end Go.Proofs.YtcegdgmbponapaaDoor
