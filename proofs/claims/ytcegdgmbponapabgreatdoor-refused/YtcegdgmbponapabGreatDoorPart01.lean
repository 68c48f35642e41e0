/-
  The walks of package row: Filled, Sum, Scaled, at bytes and at polynomials.
  The walks of package polynomial: At, withRoot, basis, Bases.
  The walks of package cutting, and of what it takes of slices: run, known, Grow, Concat.
-/
import Derived.Test.YtcegdgmbponapabGreatDoorPart00
import Derived.Deep.QuietTactic
import Derived.BigQuiet
import Derived.Lib.AppendZeros
namespace Go.Proofs.YtcegdgmbponapabGreatDoor
open Go.RowKit

/-- Behind 'make([]T, n)', T a byte. -/
theorem made_row {w1 : World} {base g : Nat} {e : TypeId} {n : Nat} (h : w1.ownsRow base e 1 (.slice (some ⟨g, 0, none⟩) n n) n (madeCells (Value.int IntKind.u8 0).cells (n * 1)).toList) :
    w1.ownsRow base e 1 (.slice (some ⟨g, 0, none⟩) n n) n (bs (List.replicate n 0)) := by
  have e : (madeCells (Value.int IntKind.u8 0).cells (n * 1)).toList = bs (List.replicate n 0) := by
    rw [Nat.mul_one]
    show (madeCells #[Value.int IntKind.u8 0] n).toList = _
    rw [toList_madeCells_one]; simp [bs]
  rw [e] at h; exact h

theorem grown_below {w w1 : World} (h : w.grownBy w1 none) : Below w.heap.size w w1 :=
  (Below.refl _ _).grown h (Nat.le_refl _) (by intro k hk; cases hk)

theorem bs_rep (n : Nat) : bs (List.replicate n 0) = List.replicate n (Value.int .u8 0) := by simp [bs]

set_option maxRecDepth 100000 in
set_option maxHeartbeats 400000 in
theorem filledB (a : Option Addr) (cap : Nat) (xs : List UInt8) (n : Nat) (w : World) (hr : Rd w a (bs xs)) (hn : n ≤ 1000) :
    Calls Tryz.prog 134 #[.slice a xs.length cap, .int .i64 n] w fun e w' =>
      ∃ g, e = .returned (.slice (some ⟨g, 0, none⟩) n n) ∧ w'.ownsRow w.heap.size 5 1 (.slice (some ⟨g, 0, none⟩) n n) n (bs (Cof.fillRow xs n)) ∧ Below w.heap.size w w' := by
  obtain ⟨i0, hi, hz0, hz1, hz2⟩ := info_parts Tryz.info5
  have hcl : (bs (xs.take n)).length = xs.length.min n := by rw [bs_length, List.length_take, Nat.min_comm]
  have HC : Hid _ := hcl
  clear hcl
  have hpos : ∀ w1, Below w.heap.size w w1 → (0 < (bs (xs.take n)).length → (some ⟨w.heap.size, 0, none⟩ : Option Addr) = some ⟨w.heap.size, 0, none⟩ ∧ ∃ ad, a = some ad ∧ ∀ (j : Nat) (v : Value), (bs (xs.take n))[j]? = some v → w1.cell? (ad.add j) = some v) := by
    intro w1 hb1 h0
    have h0' : 0 < (bs xs).length := by rw [bs_length, List.length_take] at h0; rw [bs_length]; omega
    obtain ⟨b, o, h1, h2, h3⟩ := (hr.below hb1 (Nat.le_refl _)).pos h0'
    refine ⟨rfl, _, h1, fun j v hj => ?_⟩
    have hx : (bs xs)[j]? = some v := by
      simp only [bs, List.map_take] at hj ⊢
      rw [List.getElem?_take] at hj
      split at hj
      · exact hj
      · cases hj
    rw [add_at]; exact h3 j v hx
  have HP : Hid _ := hpos
  clear hpos
  go_enter Tryz.func134, Tryz.ntmps134
  go_wp2_with (first | (at_make; refine wpList_make_full _ rfl (.tmp 6) (.tmp 6) 44 rfl w.heap.size 5 i0 (.int .u8 0) 1 Tryz.underlying44 hi hz0 hz1 .i64 .i64 _ _ n rfl rfl rfl rfl (by rw [hz2]; omega) (by unfold maxLen; omega) (Nat.le_refl _) ?_; intro w1 hown1 hgrow1; have hb1 := grown_below hgrow1; have HB1 := hid (block_of_owns (made_row hown1)).1; clear hown1 hgrow1) | (refine wpList_copy_splice rfl (.tmp 8) (.tmp 9) 44 44 rfl 5 Tryz.underlying44 Tryz.size5 _ _ _ _ _ _ rfl rfl w.heap.size 0 (bs (List.replicate n 0)) 5 HB1.out (bs (xs.take n)) HC.out (HP.out _ hb1) (by simp [bs]; omega) (bs_one _) w.heap.size w hb1 (Nat.le_refl _) ?_; intro w2 hg2 hb2))
  go_ret
  refine ⟨_, rfl, ?_, hb2⟩
  have h := hg2.out
  rw [bs_rep, fill_splice] at h
  exact owns_of_block h (Nat.le_refl _) (by rw [bs_length, Cof.length_fillRow]) (by unfold maxLen; omega)
set_option maxRecDepth 100000 in
set_option maxHeartbeats 400000 in
theorem filledP (a : Option Addr) (cap : Nat) (xs : List UInt8) (n : Nat) (w : World) (hr : Rd w a (bs xs)) (hn : n ≤ 1000) :
    Calls Tryz.prog 215 #[.slice a xs.length cap, .int .i64 n] w fun e w' =>
      ∃ g, e = .returned (.slice (some ⟨g, 0, none⟩) n n) ∧ w'.ownsRow w.heap.size 188 1 (.slice (some ⟨g, 0, none⟩) n n) n (bs (Cof.fillRow xs n)) ∧ Below w.heap.size w w' := by
  obtain ⟨i0, hi, hz0, hz1, hz2⟩ := info_parts Tryz.infoE
  have hcl : (bs (xs.take n)).length = xs.length.min n := by rw [bs_length, List.length_take, Nat.min_comm]
  have HC : Hid _ := hcl
  clear hcl
  have hpos : ∀ w1, Below w.heap.size w w1 → (0 < (bs (xs.take n)).length → (some ⟨w.heap.size, 0, none⟩ : Option Addr) = some ⟨w.heap.size, 0, none⟩ ∧ ∃ ad, a = some ad ∧ ∀ (j : Nat) (v : Value), (bs (xs.take n))[j]? = some v → w1.cell? (ad.add j) = some v) := by
    intro w1 hb1 h0
    have h0' : 0 < (bs xs).length := by rw [bs_length, List.length_take] at h0; rw [bs_length]; omega
    obtain ⟨b, o, h1, h2, h3⟩ := (hr.below hb1 (Nat.le_refl _)).pos h0'
    refine ⟨rfl, _, h1, fun j v hj => ?_⟩
    have hx : (bs xs)[j]? = some v := by
      simp only [bs, List.map_take] at hj ⊢
      rw [List.getElem?_take] at hj
      split at hj
      · exact hj
      · cases hj
    rw [add_at]; exact h3 j v hx
  have HP : Hid _ := hpos
  clear hpos
  go_enter Tryz.func215, Tryz.ntmps215
  go_wp2_with (first | (at_make; refine wpList_make_full _ rfl (.tmp 6) (.tmp 6) 241 rfl w.heap.size 188 i0 (.int .u8 0) 1 Tryz.underlying241 hi hz0 hz1 .i64 .i64 _ _ n rfl rfl rfl rfl (by rw [hz2]; omega) (by unfold maxLen; omega) (Nat.le_refl _) ?_; intro w1 hown1 hgrow1; have hb1 := grown_below hgrow1; have HB1 := hid (block_of_owns (made_row hown1)).1; clear hown1 hgrow1) | (refine wpList_copy_splice rfl (.tmp 8) (.tmp 9) 241 241 rfl 188 Tryz.underlying241 Tryz.sizeE _ _ _ _ _ _ rfl rfl w.heap.size 0 (bs (List.replicate n 0)) 188 HB1.out (bs (xs.take n)) HC.out (HP.out _ hb1) (by simp [bs]; omega) (bs_one _) w.heap.size w hb1 (Nat.le_refl _) ?_; intro w2 hg2 hb2))
  go_ret
  refine ⟨_, rfl, ?_, hb2⟩
  have h := hg2.out
  rw [bs_rep, fill_splice] at h
  exact owns_of_block h (Nat.le_refl _) (by rw [bs_length, Cof.length_fillRow]) (by unfold maxLen; omega)

theorem scaled_full (xs : List UInt8) (f : UInt8) : rowTo (fun i => Cof.mul f (xs.getD i 0)) (List.replicate xs.length 0) xs.length xs.length = Cof.scaleRow xs f := by
  rw [rowTo_full]
  apply List.ext_getElem
  · simp [Cof.scaleRow]
  · intro i h1 h2
    simp [Cof.scaleRow] at h2 ⊢
    simp [h2]

/-- A store into a row that the call has made. -/
theorem store_below {B : Nat} {w wr : World} (hb : Below B w wr) {g j : Nat} (hg : B ≤ g) (v : Value) : Below B w (wr.setCell ⟨g, j, none⟩ v) := hb.setCell hg v

set_option maxRecDepth 100000 in
set_option maxHeartbeats 400000 in
theorem scaledB (a : Option Addr) (cap : Nat) (xs : List UInt8) (f : UInt8) (w : World) (hr : Rd w a (bs xs)) (hn : xs.length ≤ 1000) :
    Calls Tryz.prog 143 #[.slice a xs.length cap, .int .u8 f.toNat] w fun e w' =>
      ∃ g, e = .returned (.slice (some ⟨g, 0, none⟩) xs.length xs.length) ∧ w'.ownsRow w.heap.size 5 1 (.slice (some ⟨g, 0, none⟩) xs.length xs.length) xs.length (bs (Cof.scaleRow xs f)) ∧ Below w.heap.size w w' := by
  obtain ⟨i0, hi, hz0, hz1, hz2⟩ := info_parts Tryz.info5
  go_enter Tryz.func143, Tryz.ntmps143
  go_wp2_with (first | (at_make; refine wpList_make_full _ rfl (.tmp 9) (.tmp 9) 44 rfl w.heap.size 5 i0 (.int .u8 0) 1 Tryz.underlying44 hi hz0 hz1 .i64 .i64 _ _ xs.length rfl rfl rfl rfl (by rw [hz2]; omega) (by unfold maxLen; omega) (Nat.le_refl _) ?_; intro w1 hown1 hgrow1; have hb1 := grown_below hgrow1; have HO1 := hid (made_row hown1); clear hown1 hgrow1) | fail)
  go_loopw [13] (fun i wr => ∃ k : Nat, k ≤ xs.length ∧ i = .int .i64 k ∧ wr.ownsRow w.heap.size 5 1 (.slice (some ⟨w.heap.size, 0, none⟩) xs.length xs.length) xs.length (bs (rowTo (fun i => Cof.mul f (xs.getD i 0)) (List.replicate xs.length 0) xs.length k)) ∧ Below w.heap.size w wr)
    (fun i _ => xs.length - (intOf i).toNat)
  case atStart =>
    refine ⟨0, Nat.zero_le _, rfl, ?_, hb1⟩
    rw [rowTo_zero _ _ _ (by simp)]
    exact HO1.out
  case round =>
    obtain ⟨k, hk, rfl, hown, hbel⟩ := hrel
    by_cases hlt : k < xs.length
    · obtain ⟨b, o, rfl, hbs, hcell⟩ := hr.pos (by rw [bs_length]; omega)
      have hc : wr.cell? ⟨b, o + k, none⟩ = some (.int .u8 xs[k].toNat) := by rw [hbel.cell (by exact hbs)]; exact hcell k _ (by rw [bs_get _ _ hlt]; simp [hlt])
      have hs := hown.frozenAt k
      have hn := row_next hown hlt
      have HST := hid (stored_row (u := Cof.mul f xs[k]) hown (by simp [hlt]))
      clear hown hcell
      go_wp2_with (go_at_call 172; refine (times_any _ _ _).mono ?_; rintro e w' ⟨rfl, rfl⟩)
      go_roundw
      case rel => exact ⟨k + 1, by omega, by go_num, HST.out, hbel.setCell (Nat.le_refl _) _⟩
      case measure => simp [intOf]; omega
    · have hkn : k = xs.length := by omega
      subst hkn
      rw [scaled_full] at hown
      go_wp2
      go_ret
      exact ⟨_, rfl, hown, hbel⟩
set_option maxRecDepth 100000 in
set_option maxHeartbeats 400000 in
theorem scaledP (a : Option Addr) (cap : Nat) (xs : List UInt8) (f : UInt8) (w : World) (hr : Rd w a (bs xs)) (hn : xs.length ≤ 1000) :
    Calls Tryz.prog 185 #[.slice a xs.length cap, .int .u8 f.toNat] w fun e w' =>
      ∃ g, e = .returned (.slice (some ⟨g, 0, none⟩) xs.length xs.length) ∧ w'.ownsRow w.heap.size 188 1 (.slice (some ⟨g, 0, none⟩) xs.length xs.length) xs.length (bs (Cof.scaleRow xs f)) ∧ Below w.heap.size w w' := by
  obtain ⟨i0, hi, hz0, hz1, hz2⟩ := info_parts Tryz.infoE
  go_enter Tryz.func185, Tryz.ntmps185
  go_wp2_with (first | (at_make; refine wpList_make_full _ rfl (.tmp 9) (.tmp 9) 241 rfl w.heap.size 188 i0 (.int .u8 0) 1 Tryz.underlying241 hi hz0 hz1 .i64 .i64 _ _ xs.length rfl rfl rfl rfl (by rw [hz2]; omega) (by unfold maxLen; omega) (Nat.le_refl _) ?_; intro w1 hown1 hgrow1; have hb1 := grown_below hgrow1; have HO1 := hid (made_row hown1); clear hown1 hgrow1) | fail)
  go_loopw [13] (fun i wr => ∃ k : Nat, k ≤ xs.length ∧ i = .int .i64 k ∧ wr.ownsRow w.heap.size 188 1 (.slice (some ⟨w.heap.size, 0, none⟩) xs.length xs.length) xs.length (bs (rowTo (fun i => Cof.mul f (xs.getD i 0)) (List.replicate xs.length 0) xs.length k)) ∧ Below w.heap.size w wr)
    (fun i _ => xs.length - (intOf i).toNat)
  case atStart =>
    refine ⟨0, Nat.zero_le _, rfl, ?_, hb1⟩
    rw [rowTo_zero _ _ _ (by simp)]
    exact HO1.out
  case round =>
    obtain ⟨k, hk, rfl, hown, hbel⟩ := hrel
    by_cases hlt : k < xs.length
    · obtain ⟨b, o, rfl, hbs, hcell⟩ := hr.pos (by rw [bs_length]; omega)
      have hc : wr.cell? ⟨b, o + k, none⟩ = some (.int .u8 xs[k].toNat) := by rw [hbel.cell (by exact hbs)]; exact hcell k _ (by rw [bs_get _ _ hlt]; simp [hlt])
      have hs := hown.frozenAt k
      have hn := row_next hown hlt
      have HST := hid (stored_row (u := Cof.mul f xs[k]) hown (by simp [hlt]))
      clear hown hcell
      go_wp2_with (go_at_call 172; refine (times_any _ _ _).mono ?_; rintro e w' ⟨rfl, rfl⟩)
      go_roundw
      case rel => exact ⟨k + 1, by omega, by go_num, HST.out, hbel.setCell (Nat.le_refl _) _⟩
      case measure => simp [intOf]; omega
    · have hkn : k = xs.length := by omega
      subst hkn
      rw [scaled_full] at hown
      go_wp2
      go_ret
      exact ⟨_, rfl, hown, hbel⟩

theorem sum_full (xs ys : List UInt8) : rowTo (fun i => xs.getD i 0 ^^^ ys.getD i 0) (Cof.fillRow xs (max xs.length ys.length)) (max xs.length ys.length) ys.length = Cof.sumRow xs ys := by
  apply List.map_congr_left
  intro i hi
  rw [List.mem_range] at hi
  by_cases h : i < ys.length
  · simp [h]
  · simp [h, Cof.fillRow, hi]

theorem fill_at (xs : List UInt8) (n k : Nat) (h : k < n) : (Cof.fillRow xs n).getD k 0 = xs.getD k 0 := by simp [Cof.fillRow, h]

set_option maxRecDepth 100000 in
set_option maxHeartbeats 400000 in
theorem sumB_lt (a a' : Option Addr) (cap cap' : Nat) (xs ys : List UInt8) (w : World) (hr : Rd w a (bs xs)) (hr' : Rd w a' (bs ys)) (hn : xs.length ≤ 1000) (hm : ys.length ≤ 1000) (hc : xs.length < ys.length) :
    Calls Tryz.prog 95 #[.slice a xs.length cap, .slice a' ys.length cap'] w fun e w' =>
      ∃ g n, e = .returned (.slice (some ⟨g, 0, none⟩) n n) ∧ n = (Cof.sumRow xs ys).length ∧ w'.ownsRow w.heap.size 5 1 (.slice (some ⟨g, 0, none⟩) n n) n (bs (Cof.sumRow xs ys)) ∧ Below w.heap.size w w' := by
  have HM := hid (Nat.max_eq_right (Nat.le_of_lt hc))
  go_enter Tryz.func95, Tryz.ntmps95
  go_wp2_with (go_at_call 134; refine (filledB a cap xs ys.length _ hr (by omega)).mono ?_; rintro e w1 ⟨g, rfl, hown1, hb1⟩; have HO1 := hid hown1; clear hown1)
  have hgs : w.heap.size ≤ g := (HO1.out.lt g rfl).1
  go_loopw [17] (fun i wr => ∃ k : Nat, k ≤ ys.length ∧ i = .int .i64 k ∧ wr.ownsRow w.heap.size 5 1 (.slice (some ⟨g, 0, none⟩) ys.length ys.length) ys.length (bs (rowTo (fun i => xs.getD i 0 ^^^ ys.getD i 0) (Cof.fillRow xs ys.length) ys.length k)) ∧ Below w.heap.size w wr)
    (fun i _ => ys.length - (intOf i).toNat)
  case atStart =>
    refine ⟨0, Nat.zero_le _, rfl, ?_, hb1⟩
    rw [rowTo_zero _ _ _ (Cof.length_fillRow _ _)]
    exact HO1.out
  case round =>
    obtain ⟨k, hk, rfl, hown, hbel⟩ := hrel
    by_cases hlt : k < ys.length
    · obtain ⟨b, o, rfl, hbs, hcell⟩ := hr'.pos (by rw [bs_length]; omega)
      have hc1 : wr.cell? ⟨b, o + k, none⟩ = some (.int .u8 ys[k].toNat) := by rw [hbel.cell (by exact hbs)]; exact hcell k _ (by rw [bs_get _ _ hlt]; simp [hlt])
      have hs := hown.frozenAt k
      have hn0 := row_next hown (by omega)
      rw [fill_at _ _ _ (by omega)] at hn0
      obtain ⟨x, hx⟩ : ∃ x, x = xs.getD k 0 := ⟨_, rfl⟩
      rw [← hx] at hn0
      have HST := hid (stored_row (u := x ^^^ ys[k]) hown (by simp [hlt, hx]))
      clear hown hcell hx
      go_wp2
      go_roundw
      case rel => exact ⟨k + 1, by omega, by go_num, by rw [bits_xor]; exact HST.out, hbel.setCell hgs _⟩
      case measure => simp [intOf]; omega
    · have hkn : k = ys.length := by omega
      subst hkn
      have HF := hid (sum_full xs ys)
      rw [HM.out] at HF
      rw [HF.out] at hown
      go_wp2
      go_ret
      exact ⟨_, _, rfl, by rw [Cof.length_sumRow, HM.out], hown, hbel⟩
set_option maxRecDepth 100000 in
set_option maxHeartbeats 400000 in
theorem sumB_ge (a a' : Option Addr) (cap cap' : Nat) (xs ys : List UInt8) (w : World) (hr : Rd w a (bs xs)) (hr' : Rd w a' (bs ys)) (hn : xs.length ≤ 1000) (hm : ys.length ≤ 1000) (hc : ys.length ≤ xs.length) :
    Calls Tryz.prog 95 #[.slice a xs.length cap, .slice a' ys.length cap'] w fun e w' =>
      ∃ g n, e = .returned (.slice (some ⟨g, 0, none⟩) n n) ∧ n = (Cof.sumRow xs ys).length ∧ w'.ownsRow w.heap.size 5 1 (.slice (some ⟨g, 0, none⟩) n n) n (bs (Cof.sumRow xs ys)) ∧ Below w.heap.size w w' := by
  have HM := hid (Nat.max_eq_left hc)
  go_enter Tryz.func95, Tryz.ntmps95
  go_wp2_with (go_at_call 134; refine (filledB a cap xs xs.length _ hr (by omega)).mono ?_; rintro e w1 ⟨g, rfl, hown1, hb1⟩; have HO1 := hid hown1; clear hown1)
  have hgs : w.heap.size ≤ g := (HO1.out.lt g rfl).1
  go_loopw [17] (fun i wr => ∃ k : Nat, k ≤ ys.length ∧ i = .int .i64 k ∧ wr.ownsRow w.heap.size 5 1 (.slice (some ⟨g, 0, none⟩) xs.length xs.length) xs.length (bs (rowTo (fun i => xs.getD i 0 ^^^ ys.getD i 0) (Cof.fillRow xs xs.length) xs.length k)) ∧ Below w.heap.size w wr)
    (fun i _ => ys.length - (intOf i).toNat)
  case atStart =>
    refine ⟨0, Nat.zero_le _, rfl, ?_, hb1⟩
    rw [rowTo_zero _ _ _ (Cof.length_fillRow _ _)]
    exact HO1.out
  case round =>
    obtain ⟨k, hk, rfl, hown, hbel⟩ := hrel
    by_cases hlt : k < ys.length
    · obtain ⟨b, o, rfl, hbs, hcell⟩ := hr'.pos (by rw [bs_length]; omega)
      have hc1 : wr.cell? ⟨b, o + k, none⟩ = some (.int .u8 ys[k].toNat) := by rw [hbel.cell (by exact hbs)]; exact hcell k _ (by rw [bs_get _ _ hlt]; simp [hlt])
      have hs := hown.frozenAt k
      have hn0 := row_next hown (by omega)
      rw [fill_at _ _ _ (by omega)] at hn0
      obtain ⟨x, hx⟩ : ∃ x, x = xs.getD k 0 := ⟨_, rfl⟩
      rw [← hx] at hn0
      have HST := hid (stored_row (u := x ^^^ ys[k]) hown (by simp [hlt, hx]))
      clear hown hcell hx
      go_wp2
      go_roundw
      case rel => exact ⟨k + 1, by omega, by go_num, by rw [bits_xor]; exact HST.out, hbel.setCell hgs _⟩
      case measure => simp [intOf]; omega
    · have hkn : k = ys.length := by omega
      subst hkn
      have HF := hid (sum_full xs ys)
      rw [HM.out] at HF
      rw [HF.out] at hown
      go_wp2
      go_ret
      exact ⟨_, _, rfl, by rw [Cof.length_sumRow, HM.out], hown, hbel⟩
set_option maxRecDepth 100000 in
set_option maxHeartbeats 400000 in
theorem sumP_lt (a a' : Option Addr) (cap cap' : Nat) (xs ys : List UInt8) (w : World) (hr : Rd w a (bs xs)) (hr' : Rd w a' (bs ys)) (hn : xs.length ≤ 1000) (hm : ys.length ≤ 1000) (hc : xs.length < ys.length) :
    Calls Tryz.prog 204 #[.slice a xs.length cap, .slice a' ys.length cap'] w fun e w' =>
      ∃ g n, e = .returned (.slice (some ⟨g, 0, none⟩) n n) ∧ n = (Cof.sumRow xs ys).length ∧ w'.ownsRow w.heap.size 188 1 (.slice (some ⟨g, 0, none⟩) n n) n (bs (Cof.sumRow xs ys)) ∧ Below w.heap.size w w' := by
  have HM := hid (Nat.max_eq_right (Nat.le_of_lt hc))
  go_enter Tryz.func204, Tryz.ntmps204
  go_wp2_with (go_at_call 215; refine (filledP a cap xs ys.length _ hr (by omega)).mono ?_; rintro e w1 ⟨g, rfl, hown1, hb1⟩; have HO1 := hid hown1; clear hown1)
  have hgs : w.heap.size ≤ g := (HO1.out.lt g rfl).1
  go_loopw [17] (fun i wr => ∃ k : Nat, k ≤ ys.length ∧ i = .int .i64 k ∧ wr.ownsRow w.heap.size 188 1 (.slice (some ⟨g, 0, none⟩) ys.length ys.length) ys.length (bs (rowTo (fun i => xs.getD i 0 ^^^ ys.getD i 0) (Cof.fillRow xs ys.length) ys.length k)) ∧ Below w.heap.size w wr)
    (fun i _ => ys.length - (intOf i).toNat)
  case atStart =>
    refine ⟨0, Nat.zero_le _, rfl, ?_, hb1⟩
    rw [rowTo_zero _ _ _ (Cof.length_fillRow _ _)]
    exact HO1.out
  case round =>
    obtain ⟨k, hk, rfl, hown, hbel⟩ := hrel
    by_cases hlt : k < ys.length
    · obtain ⟨b, o, rfl, hbs, hcell⟩ := hr'.pos (by rw [bs_length]; omega)
      have hc1 : wr.cell? ⟨b, o + k, none⟩ = some (.int .u8 ys[k].toNat) := by rw [hbel.cell (by exact hbs)]; exact hcell k _ (by rw [bs_get _ _ hlt]; simp [hlt])
      have hs := hown.frozenAt k
      have hn0 := row_next hown (by omega)
      rw [fill_at _ _ _ (by omega)] at hn0
      obtain ⟨x, hx⟩ : ∃ x, x = xs.getD k 0 := ⟨_, rfl⟩
      rw [← hx] at hn0
      have HST := hid (stored_row (u := x ^^^ ys[k]) hown (by simp [hlt, hx]))
      clear hown hcell hx
      go_wp2
      go_roundw
      case rel => exact ⟨k + 1, by omega, by go_num, by rw [bits_xor]; exact HST.out, hbel.setCell hgs _⟩
      case measure => simp [intOf]; omega
    · have hkn : k = ys.length := by omega
      subst hkn
      have HF := hid (sum_full xs ys)
      rw [HM.out] at HF
      rw [HF.out] at hown
      go_wp2
      go_ret
      exact ⟨_, _, rfl, by rw [Cof.length_sumRow, HM.out], hown, hbel⟩
set_option maxRecDepth 100000 in
set_option maxHeartbeats 400000 in
theorem sumP_ge (a a' : Option Addr) (cap cap' : Nat) (xs ys : List UInt8) (w : World) (hr : Rd w a (bs xs)) (hr' : Rd w a' (bs ys)) (hn : xs.length ≤ 1000) (hm : ys.length ≤ 1000) (hc : ys.length ≤ xs.length) :
    Calls Tryz.prog 204 #[.slice a xs.length cap, .slice a' ys.length cap'] w fun e w' =>
      ∃ g n, e = .returned (.slice (some ⟨g, 0, none⟩) n n) ∧ n = (Cof.sumRow xs ys).length ∧ w'.ownsRow w.heap.size 188 1 (.slice (some ⟨g, 0, none⟩) n n) n (bs (Cof.sumRow xs ys)) ∧ Below w.heap.size w w' := by
  have HM := hid (Nat.max_eq_left hc)
  go_enter Tryz.func204, Tryz.ntmps204
  go_wp2_with (go_at_call 215; refine (filledP a cap xs xs.length _ hr (by omega)).mono ?_; rintro e w1 ⟨g, rfl, hown1, hb1⟩; have HO1 := hid hown1; clear hown1)
  have hgs : w.heap.size ≤ g := (HO1.out.lt g rfl).1
  go_loopw [17] (fun i wr => ∃ k : Nat, k ≤ ys.length ∧ i = .int .i64 k ∧ wr.ownsRow w.heap.size 188 1 (.slice (some ⟨g, 0, none⟩) xs.length xs.length) xs.length (bs (rowTo (fun i => xs.getD i 0 ^^^ ys.getD i 0) (Cof.fillRow xs xs.length) xs.length k)) ∧ Below w.heap.size w wr)
    (fun i _ => ys.length - (intOf i).toNat)
  case atStart =>
    refine ⟨0, Nat.zero_le _, rfl, ?_, hb1⟩
    rw [rowTo_zero _ _ _ (Cof.length_fillRow _ _)]
    exact HO1.out
  case round =>
    obtain ⟨k, hk, rfl, hown, hbel⟩ := hrel
    by_cases hlt : k < ys.length
    · obtain ⟨b, o, rfl, hbs, hcell⟩ := hr'.pos (by rw [bs_length]; omega)
      have hc1 : wr.cell? ⟨b, o + k, none⟩ = some (.int .u8 ys[k].toNat) := by rw [hbel.cell (by exact hbs)]; exact hcell k _ (by rw [bs_get _ _ hlt]; simp [hlt])
      have hs := hown.frozenAt k
      have hn0 := row_next hown (by omega)
      rw [fill_at _ _ _ (by omega)] at hn0
      obtain ⟨x, hx⟩ : ∃ x, x = xs.getD k 0 := ⟨_, rfl⟩
      rw [← hx] at hn0
      have HST := hid (stored_row (u := x ^^^ ys[k]) hown (by simp [hlt, hx]))
      clear hown hcell hx
      go_wp2
      go_roundw
      case rel => exact ⟨k + 1, by omega, by go_num, by rw [bits_xor]; exact HST.out, hbel.setCell hgs _⟩
      case measure => simp [intOf]; omega
    · have hkn : k = ys.length := by omega
      subst hkn
      have HF := hid (sum_full xs ys)
      rw [HM.out] at HF
      rw [HF.out] at hown
      go_wp2
      go_ret
      exact ⟨_, _, rfl, by rw [Cof.length_sumRow, HM.out], hown, hbel⟩

/-- Sum. -/
theorem sumB (a a' : Option Addr) (cap cap' n m : Nat) (xs ys : List UInt8) (w : World) (en : n = xs.length) (em : m = ys.length) (hr : Rd w a (bs xs)) (hr' : Rd w a' (bs ys)) (hn : n ≤ 1000) (hm : m ≤ 1000) :
    Calls Tryz.prog 95 #[.slice a n cap, .slice a' m cap'] w fun e w' =>
      ∃ g l, e = .returned (.slice (some ⟨g, 0, none⟩) l l) ∧ l = (Cof.sumRow xs ys).length ∧ Rd w' (some ⟨g, 0, none⟩) (bs (Cof.sumRow xs ys)) ∧ Below w.heap.size w w' := by
  subst en em
  have h : Calls Tryz.prog 95 #[.slice a xs.length cap, .slice a' ys.length cap'] w fun e w' =>
      ∃ g n, e = .returned (.slice (some ⟨g, 0, none⟩) n n) ∧ n = (Cof.sumRow xs ys).length ∧ w'.ownsRow w.heap.size 5 1 (.slice (some ⟨g, 0, none⟩) n n) n (bs (Cof.sumRow xs ys)) ∧ Below w.heap.size w w' := by
    rcases Nat.lt_or_ge xs.length ys.length with h | h
    · exact sumB_lt a a' cap cap' xs ys w hr hr' hn hm h
    · exact sumB_ge a a' cap cap' xs ys w hr hr' hn hm h
  refine h.mono ?_
  rintro e w' ⟨g, l, h1, h2, h3, h4⟩
  exact ⟨g, l, h1, h2, owns_rd h3, h4⟩

/-- Scaled. -/
theorem scaleB (a : Option Addr) (cap n : Nat) (xs : List UInt8) (f : UInt8) (w : World) (en : n = xs.length) (hr : Rd w a (bs xs)) (hn : n ≤ 1000) :
    Calls Tryz.prog 143 #[.slice a n cap, .int .u8 f.toNat] w fun e w' =>
      ∃ g, e = .returned (.slice (some ⟨g, 0, none⟩) n n) ∧ Rd w' (some ⟨g, 0, none⟩) (bs (Cof.scaleRow xs f)) ∧ Below w.heap.size w w' := by
  subst en
  refine (scaledB a cap xs f w hr hn).mono ?_
  rintro e w' ⟨g, h1, h2, h3⟩
  exact ⟨g, h1, owns_rd h2, h3⟩
/-- Sum. -/
theorem sumP (a a' : Option Addr) (cap cap' n m : Nat) (xs ys : List UInt8) (w : World) (en : n = xs.length) (em : m = ys.length) (hr : Rd w a (bs xs)) (hr' : Rd w a' (bs ys)) (hn : n ≤ 1000) (hm : m ≤ 1000) :
    Calls Tryz.prog 204 #[.slice a n cap, .slice a' m cap'] w fun e w' =>
      ∃ g l, e = .returned (.slice (some ⟨g, 0, none⟩) l l) ∧ l = (Cof.sumRow xs ys).length ∧ Rd w' (some ⟨g, 0, none⟩) (bs (Cof.sumRow xs ys)) ∧ Below w.heap.size w w' := by
  subst en em
  have h : Calls Tryz.prog 204 #[.slice a xs.length cap, .slice a' ys.length cap'] w fun e w' =>
      ∃ g n, e = .returned (.slice (some ⟨g, 0, none⟩) n n) ∧ n = (Cof.sumRow xs ys).length ∧ w'.ownsRow w.heap.size 188 1 (.slice (some ⟨g, 0, none⟩) n n) n (bs (Cof.sumRow xs ys)) ∧ Below w.heap.size w w' := by
    rcases Nat.lt_or_ge xs.length ys.length with h | h
    · exact sumP_lt a a' cap cap' xs ys w hr hr' hn hm h
    · exact sumP_ge a a' cap cap' xs ys w hr hr' hn hm h
  refine h.mono ?_
  rintro e w' ⟨g, l, h1, h2, h3, h4⟩
  exact ⟨g, l, h1, h2, owns_rd h3, h4⟩

/-- Scaled. -/
theorem scaleP (a : Option Addr) (cap n : Nat) (xs : List UInt8) (f : UInt8) (w : World) (en : n = xs.length) (hr : Rd w a (bs xs)) (hn : n ≤ 1000) :
    Calls Tryz.prog 185 #[.slice a n cap, .int .u8 f.toNat] w fun e w' =>
      ∃ g, e = .returned (.slice (some ⟨g, 0, none⟩) n n) ∧ Rd w' (some ⟨g, 0, none⟩) (bs (Cof.scaleRow xs f)) ∧ Below w.heap.size w w' := by
  subst en
  refine (scaledP a cap xs f w hr hn).mono ?_
  rintro e w' ⟨g, h1, h2, h3⟩
  exact ⟨g, h1, owns_rd h2, h3⟩

end Go.Proofs.YtcegdgmbponapabGreatDoor

namespace Go.Proofs.YtcegdgmbponapabGreatDoor
open Go.RowKit

theorem below_drewN {B : Nat} {w w' : World} (h : Below B w w') (n : Nat) : Below B w (w'.drewN n) := by
  induction n with
  | zero => exact h
  | succ n ih => exact ih.drew

theorem polyAt_drop (p : List UInt8) (x : UInt8) (k : Nat) (h : k < p.length) : Cof.polyAt (p.drop k) x = Cof.mul (Cof.polyAt (p.drop (k + 1)) x) x ^^^ p[k] := by
  rw [List.drop_eq_getElem_cons h]; rfl

set_option maxRecDepth 100000 in
set_option maxHeartbeats 400000 in
theorem at_any (a : Option Addr) (cap : Nat) (p : List UInt8) (x : UInt8) (w : World) (hr : Rd w a (bs p)) (hn : p.length ≤ 1000) :
    Calls Tryz.prog 144 #[.slice a p.length cap, .int .u8 x.toNat] w fun e w' => e = .returned (.int .u8 (Cof.polyAt p x).toNat) ∧ Below w.heap.size w w' := by
  go_enter Tryz.func144, Tryz.ntmps144
  go_wp2
  go_loopw [5, 6] (fun v i wr => ∃ k : Nat, k ≤ p.length ∧ i = .int .i64 ((k : Int) - 1) ∧ v = .int .u8 (Cof.polyAt (p.drop k) x).toNat ∧ Below w.heap.size w wr)
    (fun _ i _ => (intOf i + 1).toNat)
  case atStart =>
    refine ⟨p.length, Nat.le_refl _, rfl, ?_, Below.refl _ _⟩
    simp [Cof.polyAt]
  case round =>
    obtain ⟨k, hk, rfl, rfl, hbel⟩ := hrel
    by_cases h0 : k = 0
    · subst h0
      go_wp2
      go_ret
      exact ⟨by simp, hbel⟩
    · obtain ⟨j, rfl⟩ : ∃ j, k = j + 1 := ⟨k - 1, by omega⟩
      obtain ⟨b, o, rfl, hbs, hcell⟩ := hr.pos (by rw [bs_length]; omega)
      have hlt : j < p.length := by omega
      have hc : wr.cell? ⟨b, o + j, none⟩ = some (.int .u8 p[j].toNat) := by rw [hbel.cell (by exact hbs)]; exact hcell j _ (by rw [bs_get _ _ hlt]; simp [hlt])
      have HP := hid (polyAt_drop p x j hlt)
      clear hcell h0
      generalize Cof.polyAt (p.drop (j + 1)) x = q at HP ⊢
      go_wp2
      go_quiet ((go_at_call 172; exact Calls.quiet_of_same (times_any _ _ _)))
      go_wp2
      go_roundw
      case rel => exact ⟨j, by omega, rfl, by rw [bits_xor, HP.out], below_drewN hbel _⟩
      case measure => simp [intOf]

theorem buildOne (w : World) (v : Value) (e : TypeId) (B : Nat) (hB : B ≤ w.heap.size) : (w.alloc (.cells #[v] e)).ownsRow B e 1 (.slice (some ⟨w.heap.size, 0, none⟩) 1 1) 1 [v] :=
  World.ownsRow_lit w #[v] 1 hB (by unfold maxLen; omega) rfl

set_option maxRecDepth 100000 in
set_option maxHeartbeats 400000 in
theorem withRoot_any (a : Option Addr) (cap n0 : Nat) (p : List UInt8) (x : UInt8) (w : World) (en : n0 = p.length) (hr : Rd w a (bs p)) (hn : n0 ≤ 900) (h0 : 0 < n0) :
    Calls Tryz.prog 184 #[.slice a n0 cap, .int .u8 x.toNat] w fun e w' =>
      ∃ a' n cap', e = .returned (.slice a' n cap') ∧ n = (Cof.withRoot p x).length ∧ Rd w' a' (bs (Cof.withRoot p x)) ∧ Below w.heap.size w w' := by
  subst en
  obtain ⟨i0, hi, hz0, hz1, hz2⟩ := info_parts Tryz.infoE
  obtain ⟨b, o, rfl, hbs, hcell⟩ := hr.pos (by rw [bs_length]; omega)
  have hnews : ∀ (j : Nat) (u : Value), (bs p)[j]? = some u → (w.alloc (.cells #[.int .u8 0] 188)).cell? ((⟨b, o, none⟩ : Addr).add j) = some u := by
    intro j u hj
    rw [add_at, (((Below.refl w.heap.size w).alloc (Nat.le_refl _) (.cells #[.int .u8 0] 188)).cell (p := ⟨b, o + j, none⟩) (by exact hbs))]
    exact hcell j u hj
  have HN := hid hnews
  clear hnews hcell
  have HO := hid (buildOne w (.int .u8 0) 188 w.heap.size (Nat.le_refl _))
  have hlen : (bs p).length = p.length * 1 := by rw [bs_length]; omega
  have HL := hid hlen
  clear hlen
  go_enter Tryz.func184, Tryz.ntmps184
  go_wp2_with (first | (at_builtin; refine wpList_append_own _ rfl (.tmp 6) (.tmp 7) 241 rfl w.heap.size 188 i0 (.int .u8 0) 1 1 Tryz.underlying241 hi hz0 hz1 hz2 rfl (by decide) _ _ _ rfl HO.out ⟨b, o, none⟩ p.length cap (bs p) rfl HL.out HN.out (bs_one _) (by unfold maxLen; omega) (by omega) (by simp) ?_; intro v1 w1 hown1 hgrow1 _; rw [Nat.add_comm 1 p.length] at hown1; obtain ⟨a1, cap1, rfl, hrd1⟩ := owns_any_rd hown1; have hb1 : Below w.heap.size w w1 := ((Below.refl w.heap.size w).alloc (Nat.le_refl _) (.cells #[.int .u8 0] 188)).grown hgrow1 (by simp) (fun k hk => (HO.out.lt k hk).1); clear hown1 hgrow1) | fail)
  refine (scaleP _ _ _ p x _ rfl (hr.below hb1 (Nat.le_refl _)) (by omega)).mono ?_
  rintro e w2 ⟨g2, rfl, hrd2, hb2⟩
  go_wp2_with fail
  refine (sumP _ _ _ _ _ _ (0 :: p) (Cof.scaleRow p x) _ rfl (by rw [Cof.length_scaleRow]) (hrd1.below hb2 (Nat.le_refl _)) hrd2 (by simp; omega) (by omega)).mono ?_
  rintro e w3 ⟨g3, l3, rfl, hl3, hrd3, hb3⟩
  have HL3 := hid hl3
  clear hl3
  go_wp2
  go_ret
  exact ⟨_, _, _, rfl, HL3.out, hrd3, hb1.trans ((hb2.mono hb1.size).trans (hb3.mono (Nat.le_trans hb1.size hb2.size)))⟩

theorem at_n (a : Option Addr) (cap n : Nat) (p : List UInt8) (x : UInt8) (w : World) (en : n = p.length) (hr : Rd w a (bs p)) (hn : n ≤ 1000) :
    Calls Tryz.prog 144 #[.slice a n cap, .int .u8 x.toNat] w fun e w' => e = .returned (.int .u8 (Cof.polyAt p x).toNat) ∧ Below w.heap.size w w' := by
  subst en; exact at_any a cap p x w hr hn

theorem basisTo_bounds (xs : List UInt8) (one k : Nat) : 0 < (Cof.basisTo xs one k).length ∧ (Cof.basisTo xs one k).length ≤ k + 1 := by
  induction k with
  | zero => simp [Cof.basisTo]
  | succ k ih =>
    simp only [Cof.basisTo]
    split
    · omega
    · rw [Cof.length_withRoot]; omega

set_option maxRecDepth 100000 in
set_option maxHeartbeats 400000 in
theorem basis_any (a : Option Addr) (cap n : Nat) (xs : List UInt8) (one : Nat) (w : World) (en : n = xs.length) (hr : Rd w a (bs xs)) (hn : n ≤ 800) (ho : one < n) :
    Calls Tryz.prog 171 #[.slice a n cap, .int .i64 one] w fun e w' =>
      ∃ a' l cap', e = .returned (.slice a' l cap') ∧ l = (Cof.basis xs one).length ∧ Rd w' a' (bs (Cof.basis xs one)) ∧ Below w.heap.size w w' := by
  subst en
  obtain ⟨b, o, rfl, hbs, hcell⟩ := hr.pos (by rw [bs_length]; omega)
  have HC := hid hcell
  clear hcell
  go_enter Tryz.func171, Tryz.ntmps171
  go_wp2_with fail
  go_loopw [5, 11] (fun v i wr => ∃ (k : Nat) (a' : Option Addr) (l cap' : Nat), k ≤ xs.length ∧ i = .int .i64 k ∧ v = .slice a' l cap' ∧ l = (Cof.basisTo xs one k).length ∧ Rd wr a' (bs (Cof.basisTo xs one k)) ∧ Below w.heap.size w wr)
    (fun _ i _ => xs.length - (intOf i).toNat)
  case atStart =>
    refine ⟨0, _, 1, 1, Nat.zero_le _, rfl, rfl, rfl, owns_rd (buildOne w (.int .u8 1) 188 w.heap.size (Nat.le_refl _)), (Below.refl _ _).alloc (Nat.le_refl _) _⟩
  case round =>
    obtain ⟨k, a', l, cap', hk, rfl, rfl, hl, hrd, hbel⟩ := hrel
    have hbd := basisTo_bounds xs one k
    rw [← hl] at hbd
    have HL := hid hl
    clear hl
    by_cases hlt : k < xs.length
    · have hc1 : wr.cell? ⟨b, o + k, none⟩ = some (.int .u8 xs[k].toNat) := by rw [hbel.cell (by exact hbs)]; exact HC.out k _ (by rw [bs_get _ _ hlt]; simp [hlt])
      by_cases hko : k = one
      · have hko' : ((k : Int) != (one : Int)) = false := by simp [hko]
        have HK := hid hko
        clear hko
        go_wp2_with fail
        go_roundw
        case rel => exact ⟨k + 1, a', l, cap', by omega, by go_num, rfl, by rw [HL.out]; simp [Cof.basisTo, HK.out], by simpa [Cof.basisTo, HK.out] using hrd, hbel⟩
        case measure => simp [intOf]; omega
      · have hko' : ((k : Int) != (one : Int)) = true := by rw [bne_iff_ne]; omega
        have HK := hid hko
        clear hko
        go_wp2_with (go_at_call 184; refine (withRoot_any _ _ _ (Cof.basisTo xs one k) xs[k] _ HL.out hrd (by omega) (by omega)).mono ?_; rintro e w1 ⟨a1, l1, cap1, rfl, hl1, hrd1, hb1⟩; have HL1 := hid hl1; clear hl1)
        have hbt : Cof.basisTo xs one (k + 1) = Cof.withRoot (Cof.basisTo xs one k) xs[k] := by simp [Cof.basisTo, HK.out, hlt]
        go_roundw
        case rel => exact ⟨k + 1, a1, l1, cap1, by omega, by go_num, rfl, by rw [hbt]; exact HL1.out, by rw [hbt]; exact hrd1, hbel.trans (hb1.mono hbel.size)⟩
        case measure => simp [intOf]; omega
    · have hkn : k = xs.length := by omega
      subst hkn
      have hc1 : wr.cell? ⟨b, o + one, none⟩ = some (.int .u8 xs[one].toNat) := by rw [hbel.cell (by exact hbs)]; exact HC.out one _ (by rw [bs_get _ _ ho]; simp [ho])
      have hbt : Cof.basis xs one = Cof.scaleRow (Cof.basisTo xs one xs.length) (Cof.inv (Cof.polyAt (Cof.basisTo xs one xs.length) xs[one])) := by simp [Cof.basis, ho]
      have HB := hid hbt
      clear hbt
      go_wp2_with fail
      refine (at_n _ _ _ (Cof.basisTo xs one xs.length) xs[one] _ HL.out hrd (by omega)).mono ?_
      rintro e w1 ⟨rfl, hb1⟩
      go_wp2_with fail
      refine (inverse_any _ _).mono ?_
      rintro e w1' ⟨rfl, rfl⟩
      go_wp2_with fail
      refine (scaleP _ _ _ (Cof.basisTo xs one xs.length) _ _ HL.out (hrd.below hb1 (Nat.le_refl _)) (by omega)).mono ?_
      rintro e w2 ⟨g2, rfl, hrd2, hb2⟩
      go_wp2
      go_ret
      exact ⟨_, _, _, rfl, by rw [HB.out, Cof.length_scaleRow]; exact HL.out, by rw [HB.out]; exact hrd2, hbel.trans ((hb1.mono hbel.size).trans (hb2.mono (Nat.le_trans hbel.size hb1.size)))⟩

theorem Tryz.infoPoly : (Tryz.prog.info? 241).map (fun i => (i.zero, i.size, i.bytes)) = some (some (.slice none 0 0), 1, 24) := by kernel_rfl

set_option maxRecDepth 100000 in
set_option maxHeartbeats 400000 in
theorem bases_any (a : Option Addr) (cap n : Nat) (xs : List UInt8) (w : World) (en : n = xs.length) (hr : Rd w a (bs xs)) (hn : n ≤ 800) :
    Calls Tryz.prog 142 #[.slice a n cap] w fun e w' =>
      ∃ g, e = .returned (.slice (some ⟨g, 0, none⟩) n n) ∧ RdRows w' (some ⟨g, 0, none⟩) (Cof.bases xs) ∧ Below w.heap.size w w' := by
  subst en
  obtain ⟨i0, hi, hz0, hz1, hz2⟩ := info_parts Tryz.infoPoly
  go_enter Tryz.func142, Tryz.ntmps142
  go_wp2_with (first | (at_make; refine wpList_make_full _ rfl (.tmp 6) (.tmp 6) 238 rfl w.heap.size 241 i0 (.slice none 0 0) 1 Tryz.underlying238 hi hz0 hz1 .i64 .i64 _ _ xs.length rfl rfl rfl rfl (by rw [hz2]; omega) (by unfold maxLen; omega) (Nat.le_refl _) ?_; intro w1 hown1 hgrow1; have hb1 := grown_below hgrow1; have HO1 := hid (made_rows (Cof.basis xs) hown1); clear hown1 hgrow1) | fail)
  go_loopw [10] (fun i wr => ∃ (k : Nat) (vs : List Value), k ≤ xs.length ∧ i = .int .i64 k ∧ Rows wr w.heap.size w.heap.size xs.length k 241 (Cof.basis xs) vs ∧ Below w.heap.size w wr)
    (fun i _ => xs.length - (intOf i).toNat)
  case atStart => exact ⟨0, _, Nat.zero_le _, rfl, HO1.out, hb1⟩
  case round =>
    obtain ⟨k, vs, hk, rfl, hrows, hbel⟩ := hrel
    by_cases hlt : k < xs.length
    · have HR := hid hrows
      clear hrows
      go_wp2_with fail
      refine (basis_any _ _ _ xs k _ rfl (hr.below hbel (Nat.le_refl _)) (by omega) (by omega)).mono ?_
      rintro e w2 ⟨a2, l2, cap2, rfl, hl2, hrd2, hb2⟩
      have hrows2 := HR.out.kept hb2 (Nat.le_refl _)
      have hfr := hrows2.own.frozenAt k
      obtain ⟨a3, l3, c3, hc3⟩ := hrows2.cell k hlt
      have HN := hid (hrows2.next (cap := cap2) hl2 hrd2)
      clear hrows2 hl2 hrd2
      go_wp2
      go_roundw
      case rel => exact ⟨k + 1, _, by omega, by go_num, HN.out, (hbel.trans (hb2.mono hbel.size)).setCell (Nat.le_refl _) _⟩
      case measure => simp [intOf]; omega
    · have hkn : k = xs.length := by omega
      subst hkn
      have HF := hid hrows.full
      clear hrows
      go_wp2
      go_ret
      exact ⟨_, rfl, HF.out, hbel⟩

end Go.Proofs.YtcegdgmbponapabGreatDoor

namespace Go.Proofs.YtcegdgmbponapabGreatDoor
open Go.RowKit

theorem u8_of (n : Nat) (h : n < 256) : ((UInt8.ofNat n).toNat : Int) = n := by simp [Nat.mod_eq_of_lt h]

theorem run_full (start count : Nat) : rowTo (fun i => UInt8.ofNat (start + i)) (List.replicate count 0) count count = Cof.run start count := by
  rw [rowTo_full]; rfl

set_option maxRecDepth 100000 in
set_option maxHeartbeats 400000 in
theorem run_any (start count : Nat) (w : World) (hc : start + count ≤ 256) :
    Calls Tryz.prog 121 #[.int .i64 start, .int .i64 count] w fun e w' =>
      ∃ g, e = .returned (.slice (some ⟨g, 0, none⟩) count count) ∧ Rd w' (some ⟨g, 0, none⟩) (bs (Cof.run start count)) ∧ Below w.heap.size w w' ∧ w.heap.size ≤ g := by
  obtain ⟨i0, hi, hz0, hz1, hz2⟩ := info_parts Tryz.infoE
  go_enter Tryz.func121, Tryz.ntmps121
  go_wp2_with (first | (at_make; refine wpList_make_full _ rfl (.tmp 7) (.tmp 7) 179 rfl w.heap.size 188 i0 (.int .u8 0) 1 Tryz.underlying179 hi hz0 hz1 .i64 .i64 _ _ count rfl rfl rfl rfl (by rw [hz2]; omega) (by unfold maxLen; omega) (Nat.le_refl _) ?_; intro w1 hown1 hgrow1; have hb1 := grown_below hgrow1; have HO1 := hid (made_row hown1); clear hown1 hgrow1) | fail)
  go_loopw [11] (fun i wr => ∃ k : Nat, k ≤ count ∧ i = .int .i64 k ∧ wr.ownsRow w.heap.size 188 1 (.slice (some ⟨w.heap.size, 0, none⟩) count count) count (bs (rowTo (fun i => UInt8.ofNat (start + i)) (List.replicate count 0) count k)) ∧ Below w.heap.size w wr)
    (fun i _ => count - (intOf i).toNat)
  case atStart =>
    refine ⟨0, Nat.zero_le _, rfl, ?_, hb1⟩
    rw [rowTo_zero _ _ _ (by simp)]
    exact HO1.out
  case round =>
    obtain ⟨k, hk, rfl, hown, hbel⟩ := hrel
    by_cases hlt : k < count
    · have hs := hown.frozenAt k
      have hn := row_next hown hlt
      have HST := hid (stored_row (u := UInt8.ofNat (start + k)) hown rfl)
      rw [u8_of _ (by omega)] at HST
      clear hown
      go_wp2
      go_roundw
      case rel => exact ⟨k + 1, by omega, by go_num, HST.out, hbel.setCell (Nat.le_refl _) _⟩
      case measure => simp [intOf]; omega
    · have hkn : k = count := by omega
      subst hkn
      rw [run_full] at hown
      have HO := hid (owns_rd hown)
      clear hown
      go_wp2
      go_ret
      exact ⟨_, rfl, HO.out, hbel, Nat.le_refl _⟩

theorem Tryz.infoRow : (Tryz.prog.info? 44).map (fun i => (i.zero, i.size, i.bytes)) = some (some (.slice none 0 0), 1, 24) := by kernel_rfl

theorem grown_room (w : World) (e : TypeId) (z : Value) (n cap : Nat) (hz : z.cells.size = 1) (hc : n ≤ cap) (hm : cap ≤ maxLen) :
    (w.drew.alloc (.cells (Builtin.zeroCells z.cells n ++ Builtin.zeroCells z.cells (cap - n)) e)).ownsRow w.heap.size e 1 (.slice (some ⟨w.heap.size, 0, none⟩) 0 cap) 0 [] := by
  have := World.ownsRow_made (base := w.heap.size) (e := e) (size := 1) w.drew (Builtin.zeroCells z.cells n ++ Builtin.zeroCells z.cells (cap - n)) cap (Nat.le_refl _) hm (by simp [size_zeroCells, hz]; omega)
  exact this

set_option maxRecDepth 100000 in
set_option maxHeartbeats 400000 in
theorem growE (n : Nat) (w : World) (hn : n ≤ 1000) :
    Calls Tryz.prog 157 #[.slice none 0 0, .int .i64 n] w fun e w' => ∃ v, e = .returned v ∧ w'.ownsRow w.heap.size 188 1 v 0 [] ∧ Below w.heap.size w w' := by
  obtain ⟨i0, hi, hz0, hz1, hz2⟩ := info_parts Tryz.infoE
  by_cases h0 : n = 0
  · subst h0
    go_enter Tryz.func157, Tryz.ntmps157
    go_wp2
    go_ret
    exact ⟨_, rfl, World.ownsRow_nil _ _ _ _, Below.refl _ _⟩
  · have hrun : ∀ ty, (Builtin.append_ #[179, 3] ty #[.slice none 0 0, .int .i64 n]).run Tryz.prog w = _ := fun ty => Lib.run_append_nil_zeros w 179 3 ty 188 i0 (Value.int .u8 0) .i64 .i64 Tryz.underlying179 Tryz.underlying3 hi hz0 n (by omega) (by omega) (by omega) (by rw [hz2]; omega)
    have hg := grownCap_ge w n 0 188
    have hm := grownCap_le_maxLen w n 0 188 (by unfold maxLen; omega)
    have HO := hid (grown_room w 188 (Value.int .u8 0) n (grownCap w n 0 188) rfl hg hm)
    have HB := hid (((Below.refl w.heap.size w).drew).alloc (Nat.le_refl _) (.cells (Builtin.zeroCells (Value.int .u8 0).cells n ++ Builtin.zeroCells (Value.int .u8 0).cells (grownCap w n 0 188 - n)) 188))
    generalize grownCap w n 0 188 = cap at *
    generalize (w.drew.alloc (.cells (Builtin.zeroCells (Value.int .u8 0).cells n ++ Builtin.zeroCells (Value.int .u8 0).cells (cap - n)) 188)) = w1 at *
    have HR := hid hrun
    clear hrun
    unfold maxLen at hm
    go_enter Tryz.func157, Tryz.ntmps157
    go_wp2_with (first | (at_builtin; refine Lib.wpList_append_run _ rfl (.tmp 20) (.tmp 21) _ _ rfl _ _ rfl rfl _ _ (HR.out _) ?_) | fail)
    go_ret
    exact ⟨_, rfl, HO.out, HB.out⟩
set_option maxRecDepth 100000 in
set_option maxHeartbeats 400000 in
theorem growR (n : Nat) (w : World) (hn : n ≤ 1000) :
    Calls Tryz.prog 158 #[.slice none 0 0, .int .i64 n] w fun e w' => ∃ v, e = .returned v ∧ w'.ownsRow w.heap.size 44 1 v 0 [] ∧ Below w.heap.size w w' := by
  obtain ⟨i0, hi, hz0, hz1, hz2⟩ := info_parts Tryz.infoRow
  by_cases h0 : n = 0
  · subst h0
    go_enter Tryz.func158, Tryz.ntmps158
    go_wp2
    go_ret
    exact ⟨_, rfl, World.ownsRow_nil _ _ _ _, Below.refl _ _⟩
  · have hrun : ∀ ty, (Builtin.append_ #[73, 3] ty #[.slice none 0 0, .int .i64 n]).run Tryz.prog w = _ := fun ty => Lib.run_append_nil_zeros w 73 3 ty 44 i0 (Value.slice none 0 0) .i64 .i64 Tryz.underlying73 Tryz.underlying3 hi hz0 n (by omega) (by omega) (by omega) (by rw [hz2]; omega)
    have hg := grownCap_ge w n 0 44
    have hm := grownCap_le_maxLen w n 0 44 (by unfold maxLen; omega)
    have HO := hid (grown_room w 44 (Value.slice none 0 0) n (grownCap w n 0 44) rfl hg hm)
    have HB := hid (((Below.refl w.heap.size w).drew).alloc (Nat.le_refl _) (.cells (Builtin.zeroCells (Value.slice none 0 0).cells n ++ Builtin.zeroCells (Value.slice none 0 0).cells (grownCap w n 0 44 - n)) 44))
    generalize grownCap w n 0 44 = cap at *
    generalize (w.drew.alloc (.cells (Builtin.zeroCells (Value.slice none 0 0).cells n ++ Builtin.zeroCells (Value.slice none 0 0).cells (cap - n)) 44)) = w1 at *
    have HR := hid hrun
    clear hrun
    unfold maxLen at hm
    go_enter Tryz.func158, Tryz.ntmps158
    go_wp2_with (first | (at_builtin; refine Lib.wpList_append_run _ rfl (.tmp 20) (.tmp 21) _ _ rfl _ _ rfl rfl _ _ (HR.out _) ?_) | fail)
    go_ret
    exact ⟨_, rfl, HO.out, HB.out⟩

set_option maxRecDepth 100000 in
set_option maxHeartbeats 1000000 in
theorem concatE (b n1 c1 n2 c2 : Nat) (a1 a2 : Option Addr) (X1 X2 : List Value) (w : World) (hbs : b < w.heap.size)
    (k0 : w.cell? ⟨b, 0, none⟩ = some (.slice a1 n1 c1)) (k1 : w.cell? ⟨b, 1, none⟩ = some (.slice a2 n2 c2))
    (r1 : Rd w a1 X1) (r2 : Rd w a2 X2) (l1 : X1.length = n1) (l2 : X2.length = n2) (z1 : a1 = none → c1 = 0) (z2 : a2 = none → c2 = 0)
    (o1 : ∀ u ∈ X1, u.oneCell' = true) (o2 : ∀ u ∈ X2, u.oneCell' = true) (hn1 : n1 ≤ 400) (hn2 : n2 ≤ 400) :
    Calls Tryz.prog 118 #[.slice (some ⟨b, 0, none⟩) 2 2] w fun e w' => ∃ v, e = .returned v ∧ w'.ownsRow w.heap.size 188 1 v (n1 + n2) (X1 ++ X2) ∧ Below w.heap.size w w' := by
  obtain ⟨i0, hi, hz0, hz1, hz2⟩ := info_parts Tryz.infoE
  have L1 := hid l1
  have L2 := hid l2
  clear l1 l2
  go_enter Tryz.func118, Tryz.ntmps118
  go_wp2
  refine wp_loop_rounds 3 ?_
  rw [rounds_succ]
  go_wp2
  rw [rounds_succ]
  go_wp2
  rw [rounds_succ]
  go_wp2_with fail
  refine (growE (n1 + n2) _ (by omega)).mono ?_
  rintro e w1 ⟨v1, rfl, hown1, hb1⟩
  have HO1 := hid hown1
  clear hown1
  have j0 : w1.cell? ⟨b, 0, none⟩ = some (.slice a1 n1 c1) := (hb1.cell (by exact hbs)).trans k0
  go_wp2
  refine wp_loop_rounds 3 ?_
  rw [rounds_succ]
  go_wp2_with (first | (at_builtin; refine append_src _ rfl (.tmp 31) (.tmp 32) 179 rfl w.heap.size 188 i0 (Value.int .u8 0) 1 Tryz.underlying179 hi hz0 hz1 hz2 rfl _ 0 [] rfl HO1.out a1 n1 c1 X1 rfl L1.out (r1.below hb1 (Nat.le_refl _)) z1 o1 (by omega) (by omega) hb1.size ?_; intro v2 w2 hown2 hgrow2; rw [Nat.zero_add, List.nil_append] at hown2; have hb2 : Below w.heap.size w w2 := hb1.grown hgrow2 hb1.size (fun k hk => (HO1.out.lt k hk).1); have HO2 := hid hown2; clear hown2 hgrow2; have j1 : w2.cell? ⟨b, 1, none⟩ = some (.slice a2 n2 c2) := (hb2.cell (by exact hbs)).trans k1) | fail)
  rw [rounds_succ]
  go_wp2_with (first | (at_builtin; refine append_src _ rfl (.tmp 31) (.tmp 32) 179 rfl w.heap.size 188 i0 (Value.int .u8 0) 1 Tryz.underlying179 hi hz0 hz1 hz2 rfl _ n1 X1 rfl HO2.out a2 n2 c2 X2 rfl L2.out (r2.below hb2 (Nat.le_refl _)) z2 o2 (by omega) (by omega) hb2.size ?_; intro v3 w3 hown3 hgrow3; have hb3 : Below w.heap.size w w3 := hb2.grown hgrow3 hb2.size (fun k hk => (HO2.out.lt k hk).1); have HO3 := hid hown3; clear hown3 hgrow3) | fail)
  rw [rounds_succ]
  go_wp2
  go_ret
  exact ⟨_, rfl, HO3.out, hb3⟩
set_option maxRecDepth 100000 in
set_option maxHeartbeats 1000000 in
theorem concatR (b n1 c1 n2 c2 : Nat) (a1 a2 : Option Addr) (X1 X2 : List Value) (w : World) (hbs : b < w.heap.size)
    (k0 : w.cell? ⟨b, 0, none⟩ = some (.slice a1 n1 c1)) (k1 : w.cell? ⟨b, 1, none⟩ = some (.slice a2 n2 c2))
    (r1 : Rd w a1 X1) (r2 : Rd w a2 X2) (l1 : X1.length = n1) (l2 : X2.length = n2) (z1 : a1 = none → c1 = 0) (z2 : a2 = none → c2 = 0)
    (o1 : ∀ u ∈ X1, u.oneCell' = true) (o2 : ∀ u ∈ X2, u.oneCell' = true) (hn1 : n1 ≤ 400) (hn2 : n2 ≤ 400) :
    Calls Tryz.prog 119 #[.slice (some ⟨b, 0, none⟩) 2 2] w fun e w' => ∃ v, e = .returned v ∧ w'.ownsRow w.heap.size 44 1 v (n1 + n2) (X1 ++ X2) ∧ Below w.heap.size w w' := by
  obtain ⟨i0, hi, hz0, hz1, hz2⟩ := info_parts Tryz.infoRow
  have L1 := hid l1
  have L2 := hid l2
  clear l1 l2
  go_enter Tryz.func119, Tryz.ntmps119
  go_wp2
  refine wp_loop_rounds 3 ?_
  rw [rounds_succ]
  go_wp2
  rw [rounds_succ]
  go_wp2
  rw [rounds_succ]
  go_wp2_with fail
  refine (growR (n1 + n2) _ (by omega)).mono ?_
  rintro e w1 ⟨v1, rfl, hown1, hb1⟩
  have HO1 := hid hown1
  clear hown1
  have j0 : w1.cell? ⟨b, 0, none⟩ = some (.slice a1 n1 c1) := (hb1.cell (by exact hbs)).trans k0
  go_wp2
  refine wp_loop_rounds 3 ?_
  rw [rounds_succ]
  go_wp2_with (first | (at_builtin; refine append_src _ rfl (.tmp 31) (.tmp 32) 73 rfl w.heap.size 44 i0 (Value.slice none 0 0) 24 Tryz.underlying73 hi hz0 hz1 hz2 rfl _ 0 [] rfl HO1.out a1 n1 c1 X1 rfl L1.out (r1.below hb1 (Nat.le_refl _)) z1 o1 (by omega) (by omega) hb1.size ?_; intro v2 w2 hown2 hgrow2; rw [Nat.zero_add, List.nil_append] at hown2; have hb2 : Below w.heap.size w w2 := hb1.grown hgrow2 hb1.size (fun k hk => (HO1.out.lt k hk).1); have HO2 := hid hown2; clear hown2 hgrow2; have j1 : w2.cell? ⟨b, 1, none⟩ = some (.slice a2 n2 c2) := (hb2.cell (by exact hbs)).trans k1) | fail)
  rw [rounds_succ]
  go_wp2_with (first | (at_builtin; refine append_src _ rfl (.tmp 31) (.tmp 32) 73 rfl w.heap.size 44 i0 (Value.slice none 0 0) 24 Tryz.underlying73 hi hz0 hz1 hz2 rfl _ n1 X1 rfl HO2.out a2 n2 c2 X2 rfl L2.out (r2.below hb2 (Nat.le_refl _)) z2 o2 (by omega) (by omega) hb2.size ?_; intro v3 w3 hown3 hgrow3; have hb3 : Below w.heap.size w w3 := hb2.grown hgrow3 hb2.size (fun k hk => (HO2.out.lt k hk).1); have HO3 := hid hown3; clear hown3 hgrow3) | fail)
  rw [rounds_succ]
  go_wp2
  go_ret
  exact ⟨_, rfl, HO3.out, hb3⟩

end Go.Proofs.YtcegdgmbponapabGreatDoor
