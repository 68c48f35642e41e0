/-
  The walks of package row: Filled, Sum, Scaled, at bytes and at polynomials.
-/
import Derived.Test.YtcegdgmbponapaaDoorBase
namespace Go.Proofs.YtcegdgmbponapaaDoor
open Go.RowKit

/-- Behind 'make([]T, n)', T a byte. -/
theorem made_row {w1 : World} {base g : Nat} {e : TypeId} {n : Nat} (h : w1.ownsRow base e 1 (.slice (some ⟨g, 0, none⟩) n n) n (madeCells (Value.int IntKind.u8 0).cells (n * 1)).toList) :
    w1.ownsRow base e 1 (.slice (some ⟨g, 0, none⟩) n n) n (bs (List.replicate n 0)) := by
  have e : (madeCells (Value.int IntKind.u8 0).cells (n * 1)).toList = bs (List.replicate n 0) := by
    rw [Nat.mul_one]
    show (madeCells #[Value.int IntKind.u8 0] n).toList = _
    rw [toList_madeCells_one]; simp [bs]
  rw [e] at h; exact h

theorem grown_below {w w1 : World} (h : w.grownBy w1 none) : Below w.heap.size w w1 :=
  (Below.refl _ _).grown h (Nat.le_refl _) (by intro k hk; cases hk)

theorem bs_rep (n : Nat) : bs (List.replicate n 0) = List.replicate n (Value.int .u8 0) := by simp [bs]

set_option maxRecDepth 100000 in
set_option maxHeartbeats 400000 in
theorem filledB (a : Option Addr) (cap : Nat) (xs : List UInt8) (n : Nat) (w : World) (hr : Rd w a (bs xs)) (hn : n ≤ 1000) :
    Calls Tryd.prog 65 #[.slice a xs.length cap, .int .i64 n] w fun e w' =>
      ∃ g, e = .returned (.slice (some ⟨g, 0, none⟩) n n) ∧ w'.ownsRow w.heap.size 5 1 (.slice (some ⟨g, 0, none⟩) n n) n (bs (Cof.fillRow xs n)) ∧ Below w.heap.size w w' := by
  obtain ⟨i0, hi, hz0, hz1, hz2⟩ := info_parts Tryd.info5
  have hcl : (bs (xs.take n)).length = xs.length.min n := by rw [bs_length, List.length_take, Nat.min_comm]
  have HC : Hid _ := hcl
  clear hcl
  have hpos : ∀ w1, Below w.heap.size w w1 → (0 < (bs (xs.take n)).length → (some ⟨w.heap.size, 0, none⟩ : Option Addr) = some ⟨w.heap.size, 0, none⟩ ∧ ∃ ad, a = some ad ∧ ∀ (j : Nat) (v : Value), (bs (xs.take n))[j]? = some v → w1.cell? (ad.add j) = some v) := by
    intro w1 hb1 h0
    have h0' : 0 < (bs xs).length := by rw [bs_length, List.length_take] at h0; rw [bs_length]; omega
    obtain ⟨b, o, h1, h2, h3⟩ := (hr.below hb1 (Nat.le_refl _)).pos h0'
    refine ⟨rfl, _, h1, fun j v hj => ?_⟩
    have hx : (bs xs)[j]? = some v := by
      simp only [bs, List.map_take] at hj ⊢
      rw [List.getElem?_take] at hj
      split at hj
      · exact hj
      · cases hj
    rw [add_at]; exact h3 j v hx
  have HP : Hid _ := hpos
  clear hpos
  go_enter Tryd.func65, Tryd.ntmps65
  go_wp2_with (first | (at_make; refine wpList_make_full _ rfl (.tmp 6) (.tmp 6) 60 rfl w.heap.size 5 i0 (.int .u8 0) 1 Tryd.underlying60 hi hz0 hz1 .i64 .i64 _ _ n rfl rfl rfl rfl (by rw [hz2]; omega) (by unfold maxLen; omega) (Nat.le_refl _) ?_; intro w1 hown1 hgrow1; have hb1 := grown_below hgrow1; have HB1 := hid (block_of_owns (made_row hown1)).1; clear hown1 hgrow1) | (refine wpList_copy_splice rfl (.tmp 8) (.tmp 9) 60 60 rfl 5 Tryd.underlying60 Tryd.size5 _ _ _ _ _ _ rfl rfl w.heap.size 0 (bs (List.replicate n 0)) 5 HB1.out (bs (xs.take n)) HC.out (HP.out _ hb1) (by simp [bs]; omega) (bs_one _) w.heap.size w hb1 (Nat.le_refl _) ?_; intro w2 hg2 hb2))
  go_ret
  refine ⟨_, rfl, ?_, hb2⟩
  have h := hg2.out
  rw [bs_rep, fill_splice] at h
  exact owns_of_block h (Nat.le_refl _) (by rw [bs_length, Cof.length_fillRow]) (by unfold maxLen; omega)
set_option maxRecDepth 100000 in
set_option maxHeartbeats 400000 in
theorem filledP (a : Option Addr) (cap : Nat) (xs : List UInt8) (n : Nat) (w : World) (hr : Rd w a (bs xs)) (hn : n ≤ 1000) :
    Calls Tryd.prog 97 #[.slice a xs.length cap, .int .i64 n] w fun e w' =>
      ∃ g, e = .returned (.slice (some ⟨g, 0, none⟩) n n) ∧ w'.ownsRow w.heap.size 95 1 (.slice (some ⟨g, 0, none⟩) n n) n (bs (Cof.fillRow xs n)) ∧ Below w.heap.size w w' := by
  obtain ⟨i0, hi, hz0, hz1, hz2⟩ := info_parts Tryd.infoE
  have hcl : (bs (xs.take n)).length = xs.length.min n := by rw [bs_length, List.length_take, Nat.min_comm]
  have HC : Hid _ := hcl
  clear hcl
  have hpos : ∀ w1, Below w.heap.size w w1 → (0 < (bs (xs.take n)).length → (some ⟨w.heap.size, 0, none⟩ : Option Addr) = some ⟨w.heap.size, 0, none⟩ ∧ ∃ ad, a = some ad ∧ ∀ (j : Nat) (v : Value), (bs (xs.take n))[j]? = some v → w1.cell? (ad.add j) = some v) := by
    intro w1 hb1 h0
    have h0' : 0 < (bs xs).length := by rw [bs_length, List.length_take] at h0; rw [bs_length]; omega
    obtain ⟨b, o, h1, h2, h3⟩ := (hr.below hb1 (Nat.le_refl _)).pos h0'
    refine ⟨rfl, _, h1, fun j v hj => ?_⟩
    have hx : (bs xs)[j]? = some v := by
      simp only [bs, List.map_take] at hj ⊢
      rw [List.getElem?_take] at hj
      split at hj
      · exact hj
      · cases hj
    rw [add_at]; exact h3 j v hx
  have HP : Hid _ := hpos
  clear hpos
  go_enter Tryd.func97, Tryd.ntmps97
  go_wp2_with (first | (at_make; refine wpList_make_full _ rfl (.tmp 6) (.tmp 6) 127 rfl w.heap.size 95 i0 (.int .u8 0) 1 Tryd.underlying127 hi hz0 hz1 .i64 .i64 _ _ n rfl rfl rfl rfl (by rw [hz2]; omega) (by unfold maxLen; omega) (Nat.le_refl _) ?_; intro w1 hown1 hgrow1; have hb1 := grown_below hgrow1; have HB1 := hid (block_of_owns (made_row hown1)).1; clear hown1 hgrow1) | (refine wpList_copy_splice rfl (.tmp 8) (.tmp 9) 127 127 rfl 95 Tryd.underlying127 Tryd.sizeE _ _ _ _ _ _ rfl rfl w.heap.size 0 (bs (List.replicate n 0)) 95 HB1.out (bs (xs.take n)) HC.out (HP.out _ hb1) (by simp [bs]; omega) (bs_one _) w.heap.size w hb1 (Nat.le_refl _) ?_; intro w2 hg2 hb2))
  go_ret
  refine ⟨_, rfl, ?_, hb2⟩
  have h := hg2.out
  rw [bs_rep, fill_splice] at h
  exact owns_of_block h (Nat.le_refl _) (by rw [bs_length, Cof.length_fillRow]) (by unfold maxLen; omega)

theorem scaled_full (xs : List UInt8) (f : UInt8) : rowTo (fun i => Cof.mul f (xs.getD i 0)) (List.replicate xs.length 0) xs.length xs.length = Cof.scaleRow xs f := by
  rw [rowTo_full]
  apply List.ext_getElem
  · simp [Cof.scaleRow]
  · intro i h1 h2
    simp [Cof.scaleRow] at h2 ⊢
    simp [h2]

/-- A store into a row that the call has made. -/
theorem store_below {B : Nat} {w wr : World} (hb : Below B w wr) {g j : Nat} (hg : B ≤ g) (v : Value) : Below B w (wr.setCell ⟨g, j, none⟩ v) := hb.setCell hg v

set_option maxRecDepth 100000 in
set_option maxHeartbeats 400000 in
theorem scaledB (a : Option Addr) (cap : Nat) (xs : List UInt8) (f : UInt8) (w : World) (hr : Rd w a (bs xs)) (hn : xs.length ≤ 1000) :
    Calls Tryd.prog 68 #[.slice a xs.length cap, .int .u8 f.toNat] w fun e w' =>
      ∃ g, e = .returned (.slice (some ⟨g, 0, none⟩) xs.length xs.length) ∧ w'.ownsRow w.heap.size 5 1 (.slice (some ⟨g, 0, none⟩) xs.length xs.length) xs.length (bs (Cof.scaleRow xs f)) ∧ Below w.heap.size w w' := by
  obtain ⟨i0, hi, hz0, hz1, hz2⟩ := info_parts Tryd.info5
  go_enter Tryd.func68, Tryd.ntmps68
  go_wp2_with (first | (at_make; refine wpList_make_full _ rfl (.tmp 9) (.tmp 9) 60 rfl w.heap.size 5 i0 (.int .u8 0) 1 Tryd.underlying60 hi hz0 hz1 .i64 .i64 _ _ xs.length rfl rfl rfl rfl (by rw [hz2]; omega) (by unfold maxLen; omega) (Nat.le_refl _) ?_; intro w1 hown1 hgrow1; have hb1 := grown_below hgrow1; have HO1 := hid (made_row hown1); clear hown1 hgrow1) | fail)
  go_loopw [13] (fun i wr => ∃ k : Nat, k ≤ xs.length ∧ i = .int .i64 k ∧ wr.ownsRow w.heap.size 5 1 (.slice (some ⟨w.heap.size, 0, none⟩) xs.length xs.length) xs.length (bs (rowTo (fun i => Cof.mul f (xs.getD i 0)) (List.replicate xs.length 0) xs.length k)) ∧ Below w.heap.size w wr)
    (fun i _ => xs.length - (intOf i).toNat)
  case atStart =>
    refine ⟨0, Nat.zero_le _, rfl, ?_, hb1⟩
    rw [rowTo_zero _ _ _ (by simp)]
    exact HO1.out
  case round =>
    obtain ⟨k, hk, rfl, hown, hbel⟩ := hrel
    by_cases hlt : k < xs.length
    · obtain ⟨b, o, rfl, hbs, hcell⟩ := hr.pos (by rw [bs_length]; omega)
      have hc : wr.cell? ⟨b, o + k, none⟩ = some (.int .u8 xs[k].toNat) := by rw [hbel.cell (by exact hbs)]; exact hcell k _ (by rw [bs_get _ _ hlt]; simp [hlt])
      have hs := hown.frozenAt k
      have hn := row_next hown hlt
      have HST := hid (stored_row (u := Cof.mul f xs[k]) hown (by simp [hlt]))
      clear hown hcell
      go_wp2_with (go_at_call 81; refine (times_any _ _ _).mono ?_; rintro e w' ⟨rfl, rfl⟩)
      go_roundw
      case rel => exact ⟨k + 1, by omega, by go_num, HST.out, hbel.setCell (Nat.le_refl _) _⟩
      case measure => simp [intOf]; omega
    · have hkn : k = xs.length := by omega
      subst hkn
      rw [scaled_full] at hown
      go_wp2
      go_ret
      exact ⟨_, rfl, hown, hbel⟩
set_option maxRecDepth 100000 in
set_option maxHeartbeats 400000 in
theorem scaledP (a : Option Addr) (cap : Nat) (xs : List UInt8) (f : UInt8) (w : World) (hr : Rd w a (bs xs)) (hn : xs.length ≤ 1000) :
    Calls Tryd.prog 88 #[.slice a xs.length cap, .int .u8 f.toNat] w fun e w' =>
      ∃ g, e = .returned (.slice (some ⟨g, 0, none⟩) xs.length xs.length) ∧ w'.ownsRow w.heap.size 95 1 (.slice (some ⟨g, 0, none⟩) xs.length xs.length) xs.length (bs (Cof.scaleRow xs f)) ∧ Below w.heap.size w w' := by
  obtain ⟨i0, hi, hz0, hz1, hz2⟩ := info_parts Tryd.infoE
  go_enter Tryd.func88, Tryd.ntmps88
  go_wp2_with (first | (at_make; refine wpList_make_full _ rfl (.tmp 9) (.tmp 9) 127 rfl w.heap.size 95 i0 (.int .u8 0) 1 Tryd.underlying127 hi hz0 hz1 .i64 .i64 _ _ xs.length rfl rfl rfl rfl (by rw [hz2]; omega) (by unfold maxLen; omega) (Nat.le_refl _) ?_; intro w1 hown1 hgrow1; have hb1 := grown_below hgrow1; have HO1 := hid (made_row hown1); clear hown1 hgrow1) | fail)
  go_loopw [13] (fun i wr => ∃ k : Nat, k ≤ xs.length ∧ i = .int .i64 k ∧ wr.ownsRow w.heap.size 95 1 (.slice (some ⟨w.heap.size, 0, none⟩) xs.length xs.length) xs.length (bs (rowTo (fun i => Cof.mul f (xs.getD i 0)) (List.replicate xs.length 0) xs.length k)) ∧ Below w.heap.size w wr)
    (fun i _ => xs.length - (intOf i).toNat)
  case atStart =>
    refine ⟨0, Nat.zero_le _, rfl, ?_, hb1⟩
    rw [rowTo_zero _ _ _ (by simp)]
    exact HO1.out
  case round =>
    obtain ⟨k, hk, rfl, hown, hbel⟩ := hrel
    by_cases hlt : k < xs.length
    · obtain ⟨b, o, rfl, hbs, hcell⟩ := hr.pos (by rw [bs_length]; omega)
      have hc : wr.cell? ⟨b, o + k, none⟩ = some (.int .u8 xs[k].toNat) := by rw [hbel.cell (by exact hbs)]; exact hcell k _ (by rw [bs_get _ _ hlt]; simp [hlt])
      have hs := hown.frozenAt k
      have hn := row_next hown hlt
      have HST := hid (stored_row (u := Cof.mul f xs[k]) hown (by simp [hlt]))
      clear hown hcell
      go_wp2_with (go_at_call 81; refine (times_any _ _ _).mono ?_; rintro e w' ⟨rfl, rfl⟩)
      go_roundw
      case rel => exact ⟨k + 1, by omega, by go_num, HST.out, hbel.setCell (Nat.le_refl _) _⟩
      case measure => simp [intOf]; omega
    · have hkn : k = xs.length := by omega
      subst hkn
      rw [scaled_full] at hown
      go_wp2
      go_ret
      exact ⟨_, rfl, hown, hbel⟩

theorem sum_full (xs ys : List UInt8) : rowTo (fun i => xs.getD i 0 ^^^ ys.getD i 0) (Cof.fillRow xs (max xs.length ys.length)) (max xs.length ys.length) ys.length = Cof.sumRow xs ys := by
  apply List.map_congr_left
  intro i hi
  rw [List.mem_range] at hi
  by_cases h : i < ys.length
  · simp [h]
  · simp [h, Cof.fillRow, hi]

theorem fill_at (xs : List UInt8) (n k : Nat) (h : k < n) : (Cof.fillRow xs n).getD k 0 = xs.getD k 0 := by simp [Cof.fillRow, h]

set_option maxRecDepth 100000 in
set_option maxHeartbeats 400000 in
theorem sumB_lt (a a' : Option Addr) (cap cap' : Nat) (xs ys : List UInt8) (w : World) (hr : Rd w a (bs xs)) (hr' : Rd w a' (bs ys)) (hn : xs.length ≤ 1000) (hm : ys.length ≤ 1000) (hc : xs.length < ys.length) :
    Calls Tryd.prog 67 #[.slice a xs.length cap, .slice a' ys.length cap'] w fun e w' =>
      ∃ g n, e = .returned (.slice (some ⟨g, 0, none⟩) n n) ∧ n = (Cof.sumRow xs ys).length ∧ w'.ownsRow w.heap.size 5 1 (.slice (some ⟨g, 0, none⟩) n n) n (bs (Cof.sumRow xs ys)) ∧ Below w.heap.size w w' := by
  have HM := hid (Nat.max_eq_right (Nat.le_of_lt hc))
  go_enter Tryd.func67, Tryd.ntmps67
  go_wp2_with (go_at_call 65; refine (filledB a cap xs ys.length _ hr (by omega)).mono ?_; rintro e w1 ⟨g, rfl, hown1, hb1⟩; have HO1 := hid hown1; clear hown1)
  have hgs : w.heap.size ≤ g := (HO1.out.lt g rfl).1
  go_loopw [17] (fun i wr => ∃ k : Nat, k ≤ ys.length ∧ i = .int .i64 k ∧ wr.ownsRow w.heap.size 5 1 (.slice (some ⟨g, 0, none⟩) ys.length ys.length) ys.length (bs (rowTo (fun i => xs.getD i 0 ^^^ ys.getD i 0) (Cof.fillRow xs ys.length) ys.length k)) ∧ Below w.heap.size w wr)
    (fun i _ => ys.length - (intOf i).toNat)
  case atStart =>
    refine ⟨0, Nat.zero_le _, rfl, ?_, hb1⟩
    rw [rowTo_zero _ _ _ (Cof.length_fillRow _ _)]
    exact HO1.out
  case round =>
    obtain ⟨k, hk, rfl, hown, hbel⟩ := hrel
    by_cases hlt : k < ys.length
    · obtain ⟨b, o, rfl, hbs, hcell⟩ := hr'.pos (by rw [bs_length]; omega)
      have hc1 : wr.cell? ⟨b, o + k, none⟩ = some (.int .u8 ys[k].toNat) := by rw [hbel.cell (by exact hbs)]; exact hcell k _ (by rw [bs_get _ _ hlt]; simp [hlt])
      have hs := hown.frozenAt k
      have hn0 := row_next hown (by omega)
      rw [fill_at _ _ _ (by omega)] at hn0
      obtain ⟨x, hx⟩ : ∃ x, x = xs.getD k 0 := ⟨_, rfl⟩
      rw [← hx] at hn0
      have HST := hid (stored_row (u := x ^^^ ys[k]) hown (by simp [hlt, hx]))
      clear hown hcell hx
      go_wp2
      go_roundw
      case rel => exact ⟨k + 1, by omega, by go_num, by rw [bits_xor]; exact HST.out, hbel.setCell hgs _⟩
      case measure => simp [intOf]; omega
    · have hkn : k = ys.length := by omega
      subst hkn
      have HF := hid (sum_full xs ys)
      rw [HM.out] at HF
      rw [HF.out] at hown
      go_wp2
      go_ret
      exact ⟨_, _, rfl, by rw [Cof.length_sumRow, HM.out], hown, hbel⟩
set_option maxRecDepth 100000 in
set_option maxHeartbeats 400000 in
theorem sumB_ge (a a' : Option Addr) (cap cap' : Nat) (xs ys : List UInt8) (w : World) (hr : Rd w a (bs xs)) (hr' : Rd w a' (bs ys)) (hn : xs.length ≤ 1000) (hm : ys.length ≤ 1000) (hc : ys.length ≤ xs.length) :
    Calls Tryd.prog 67 #[.slice a xs.length cap, .slice a' ys.length cap'] w fun e w' =>
      ∃ g n, e = .returned (.slice (some ⟨g, 0, none⟩) n n) ∧ n = (Cof.sumRow xs ys).length ∧ w'.ownsRow w.heap.size 5 1 (.slice (some ⟨g, 0, none⟩) n n) n (bs (Cof.sumRow xs ys)) ∧ Below w.heap.size w w' := by
  have HM := hid (Nat.max_eq_left hc)
  go_enter Tryd.func67, Tryd.ntmps67
  go_wp2_with (go_at_call 65; refine (filledB a cap xs xs.length _ hr (by omega)).mono ?_; rintro e w1 ⟨g, rfl, hown1, hb1⟩; have HO1 := hid hown1; clear hown1)
  have hgs : w.heap.size ≤ g := (HO1.out.lt g rfl).1
  go_loopw [17] (fun i wr => ∃ k : Nat, k ≤ ys.length ∧ i = .int .i64 k ∧ wr.ownsRow w.heap.size 5 1 (.slice (some ⟨g, 0, none⟩) xs.length xs.length) xs.length (bs (rowTo (fun i => xs.getD i 0 ^^^ ys.getD i 0) (Cof.fillRow xs xs.length) xs.length k)) ∧ Below w.heap.size w wr)
    (fun i _ => ys.length - (intOf i).toNat)
  case atStart =>
    refine ⟨0, Nat.zero_le _, rfl, ?_, hb1⟩
    rw [rowTo_zero _ _ _ (Cof.length_fillRow _ _)]
    exact HO1.out
  case round =>
    obtain ⟨k, hk, rfl, hown, hbel⟩ := hrel
    by_cases hlt : k < ys.length
    · obtain ⟨b, o, rfl, hbs, hcell⟩ := hr'.pos (by rw [bs_length]; omega)
      have hc1 : wr.cell? ⟨b, o + k, none⟩ = some (.int .u8 ys[k].toNat) := by rw [hbel.cell (by exact hbs)]; exact hcell k _ (by rw [bs_get _ _ hlt]; simp [hlt])
      have hs := hown.frozenAt k
      have hn0 := row_next hown (by omega)
      rw [fill_at _ _ _ (by omega)] at hn0
      obtain ⟨x, hx⟩ : ∃ x, x = xs.getD k 0 := ⟨_, rfl⟩
      rw [← hx] at hn0
      have HST := hid (stored_row (u := x ^^^ ys[k]) hown (by simp [hlt, hx]))
      clear hown hcell hx
      go_wp2
      go_roundw
      case rel => exact ⟨k + 1, by omega, by go_num, by rw [bits_xor]; exact HST.out, hbel.setCell hgs _⟩
      case measure => simp [intOf]; omega
    · have hkn : k = ys.length := by omega
      subst hkn
      have HF := hid (sum_full xs ys)
      rw [HM.out] at HF
      rw [HF.out] at hown
      go_wp2
      go_ret
      exact ⟨_, _, rfl, by rw [Cof.length_sumRow, HM.out], hown, hbel⟩
set_option maxRecDepth 100000 in
set_option maxHeartbeats 400000 in
theorem sumP_lt (a a' : Option Addr) (cap cap' : Nat) (xs ys : List UInt8) (w : World) (hr : Rd w a (bs xs)) (hr' : Rd w a' (bs ys)) (hn : xs.length ≤ 1000) (hm : ys.length ≤ 1000) (hc : xs.length < ys.length) :
    Calls Tryd.prog 92 #[.slice a xs.length cap, .slice a' ys.length cap'] w fun e w' =>
      ∃ g n, e = .returned (.slice (some ⟨g, 0, none⟩) n n) ∧ n = (Cof.sumRow xs ys).length ∧ w'.ownsRow w.heap.size 95 1 (.slice (some ⟨g, 0, none⟩) n n) n (bs (Cof.sumRow xs ys)) ∧ Below w.heap.size w w' := by
  have HM := hid (Nat.max_eq_right (Nat.le_of_lt hc))
  go_enter Tryd.func92, Tryd.ntmps92
  go_wp2_with (go_at_call 97; refine (filledP a cap xs ys.length _ hr (by omega)).mono ?_; rintro e w1 ⟨g, rfl, hown1, hb1⟩; have HO1 := hid hown1; clear hown1)
  have hgs : w.heap.size ≤ g := (HO1.out.lt g rfl).1
  go_loopw [17] (fun i wr => ∃ k : Nat, k ≤ ys.length ∧ i = .int .i64 k ∧ wr.ownsRow w.heap.size 95 1 (.slice (some ⟨g, 0, none⟩) ys.length ys.length) ys.length (bs (rowTo (fun i => xs.getD i 0 ^^^ ys.getD i 0) (Cof.fillRow xs ys.length) ys.length k)) ∧ Below w.heap.size w wr)
    (fun i _ => ys.length - (intOf i).toNat)
  case atStart =>
    refine ⟨0, Nat.zero_le _, rfl, ?_, hb1⟩
    rw [rowTo_zero _ _ _ (Cof.length_fillRow _ _)]
    exact HO1.out
  case round =>
    obtain ⟨k, hk, rfl, hown, hbel⟩ := hrel
    by_cases hlt : k < ys.length
    · obtain ⟨b, o, rfl, hbs, hcell⟩ := hr'.pos (by rw [bs_length]; omega)
      have hc1 : wr.cell? ⟨b, o + k, none⟩ = some (.int .u8 ys[k].toNat) := by rw [hbel.cell (by exact hbs)]; exact hcell k _ (by rw [bs_get _ _ hlt]; simp [hlt])
      have hs := hown.frozenAt k
      have hn0 := row_next hown (by omega)
      rw [fill_at _ _ _ (by omega)] at hn0
      obtain ⟨x, hx⟩ : ∃ x, x = xs.getD k 0 := ⟨_, rfl⟩
      rw [← hx] at hn0
      have HST := hid (stored_row (u := x ^^^ ys[k]) hown (by simp [hlt, hx]))
      clear hown hcell hx
      go_wp2
      go_roundw
      case rel => exact ⟨k + 1, by omega, by go_num, by rw [bits_xor]; exact HST.out, hbel.setCell hgs _⟩
      case measure => simp [intOf]; omega
    · have hkn : k = ys.length := by omega
      subst hkn
      have HF := hid (sum_full xs ys)
      rw [HM.out] at HF
      rw [HF.out] at hown
      go_wp2
      go_ret
      exact ⟨_, _, rfl, by rw [Cof.length_sumRow, HM.out], hown, hbel⟩
set_option maxRecDepth 100000 in
set_option maxHeartbeats 400000 in
theorem sumP_ge (a a' : Option Addr) (cap cap' : Nat) (xs ys : List UInt8) (w : World) (hr : Rd w a (bs xs)) (hr' : Rd w a' (bs ys)) (hn : xs.length ≤ 1000) (hm : ys.length ≤ 1000) (hc : ys.length ≤ xs.length) :
    Calls Tryd.prog 92 #[.slice a xs.length cap, .slice a' ys.length cap'] w fun e w' =>
      ∃ g n, e = .returned (.slice (some ⟨g, 0, none⟩) n n) ∧ n = (Cof.sumRow xs ys).length ∧ w'.ownsRow w.heap.size 95 1 (.slice (some ⟨g, 0, none⟩) n n) n (bs (Cof.sumRow xs ys)) ∧ Below w.heap.size w w' := by
  have HM := hid (Nat.max_eq_left hc)
  go_enter Tryd.func92, Tryd.ntmps92
  go_wp2_with (go_at_call 97; refine (filledP a cap xs xs.length _ hr (by omega)).mono ?_; rintro e w1 ⟨g, rfl, hown1, hb1⟩; have HO1 := hid hown1; clear hown1)
  have hgs : w.heap.size ≤ g := (HO1.out.lt g rfl).1
  go_loopw [17] (fun i wr => ∃ k : Nat, k ≤ ys.length ∧ i = .int .i64 k ∧ wr.ownsRow w.heap.size 95 1 (.slice (some ⟨g, 0, none⟩) xs.length xs.length) xs.length (bs (rowTo (fun i => xs.getD i 0 ^^^ ys.getD i 0) (Cof.fillRow xs xs.length) xs.length k)) ∧ Below w.heap.size w wr)
    (fun i _ => ys.length - (intOf i).toNat)
  case atStart =>
    refine ⟨0, Nat.zero_le _, rfl, ?_, hb1⟩
    rw [rowTo_zero _ _ _ (Cof.length_fillRow _ _)]
    exact HO1.out
  case round =>
    obtain ⟨k, hk, rfl, hown, hbel⟩ := hrel
    by_cases hlt : k < ys.length
    · obtain ⟨b, o, rfl, hbs, hcell⟩ := hr'.pos (by rw [bs_length]; omega)
      have hc1 : wr.cell? ⟨b, o + k, none⟩ = some (.int .u8 ys[k].toNat) := by rw [hbel.cell (by exact hbs)]; exact hcell k _ (by rw [bs_get _ _ hlt]; simp [hlt])
      have hs := hown.frozenAt k
      have hn0 := row_next hown (by omega)
      rw [fill_at _ _ _ (by omega)] at hn0
      obtain ⟨x, hx⟩ : ∃ x, x = xs.getD k 0 := ⟨_, rfl⟩
      rw [← hx] at hn0
      have HST := hid (stored_row (u := x ^^^ ys[k]) hown (by simp [hlt, hx]))
      clear hown hcell hx
      go_wp2
      go_roundw
      case rel => exact ⟨k + 1, by omega, by go_num, by rw [bits_xor]; exact HST.out, hbel.setCell hgs _⟩
      case measure => simp [intOf]; omega
    · have hkn : k = ys.length := by omega
      subst hkn
      have HF := hid (sum_full xs ys)
      rw [HM.out] at HF
      rw [HF.out] at hown
      go_wp2
      go_ret
      exact ⟨_, _, rfl, by rw [Cof.length_sumRow, HM.out], hown, hbel⟩

/-- Sum. -/
theorem sumB (a a' : Option Addr) (cap cap' n m : Nat) (xs ys : List UInt8) (w : World) (en : n = xs.length) (em : m = ys.length) (hr : Rd w a (bs xs)) (hr' : Rd w a' (bs ys)) (hn : n ≤ 1000) (hm : m ≤ 1000) :
    Calls Tryd.prog 67 #[.slice a n cap, .slice a' m cap'] w fun e w' =>
      ∃ g l, e = .returned (.slice (some ⟨g, 0, none⟩) l l) ∧ l = (Cof.sumRow xs ys).length ∧ Rd w' (some ⟨g, 0, none⟩) (bs (Cof.sumRow xs ys)) ∧ Below w.heap.size w w' := by
  subst en em
  have h : Calls Tryd.prog 67 #[.slice a xs.length cap, .slice a' ys.length cap'] w fun e w' =>
      ∃ g n, e = .returned (.slice (some ⟨g, 0, none⟩) n n) ∧ n = (Cof.sumRow xs ys).length ∧ w'.ownsRow w.heap.size 5 1 (.slice (some ⟨g, 0, none⟩) n n) n (bs (Cof.sumRow xs ys)) ∧ Below w.heap.size w w' := by
    rcases Nat.lt_or_ge xs.length ys.length with h | h
    · exact sumB_lt a a' cap cap' xs ys w hr hr' hn hm h
    · exact sumB_ge a a' cap cap' xs ys w hr hr' hn hm h
  refine h.mono ?_
  rintro e w' ⟨g, l, h1, h2, h3, h4⟩
  exact ⟨g, l, h1, h2, owns_rd h3, h4⟩

/-- Scaled. -/
theorem scaleB (a : Option Addr) (cap n : Nat) (xs : List UInt8) (f : UInt8) (w : World) (en : n = xs.length) (hr : Rd w a (bs xs)) (hn : n ≤ 1000) :
    Calls Tryd.prog 68 #[.slice a n cap, .int .u8 f.toNat] w fun e w' =>
      ∃ g, e = .returned (.slice (some ⟨g, 0, none⟩) n n) ∧ Rd w' (some ⟨g, 0, none⟩) (bs (Cof.scaleRow xs f)) ∧ Below w.heap.size w w' := by
  subst en
  refine (scaledB a cap xs f w hr hn).mono ?_
  rintro e w' ⟨g, h1, h2, h3⟩
  exact ⟨g, h1, owns_rd h2, h3⟩
/-- Sum. -/
theorem sumP (a a' : Option Addr) (cap cap' n m : Nat) (xs ys : List UInt8) (w : World) (en : n = xs.length) (em : m = ys.length) (hr : Rd w a (bs xs)) (hr' : Rd w a' (bs ys)) (hn : n ≤ 1000) (hm : m ≤ 1000) :
    Calls Tryd.prog 92 #[.slice a n cap, .slice a' m cap'] w fun e w' =>
      ∃ g l, e = .returned (.slice (some ⟨g, 0, none⟩) l l) ∧ l = (Cof.sumRow xs ys).length ∧ Rd w' (some ⟨g, 0, none⟩) (bs (Cof.sumRow xs ys)) ∧ Below w.heap.size w w' := by
  subst en em
  have h : Calls Tryd.prog 92 #[.slice a xs.length cap, .slice a' ys.length cap'] w fun e w' =>
      ∃ g n, e = .returned (.slice (some ⟨g, 0, none⟩) n n) ∧ n = (Cof.sumRow xs ys).length ∧ w'.ownsRow w.heap.size 95 1 (.slice (some ⟨g, 0, none⟩) n n) n (bs (Cof.sumRow xs ys)) ∧ Below w.heap.size w w' := by
    rcases Nat.lt_or_ge xs.length ys.length with h | h
    · exact sumP_lt a a' cap cap' xs ys w hr hr' hn hm h
    · exact sumP_ge a a' cap cap' xs ys w hr hr' hn hm h
  refine h.mono ?_
  rintro e w' ⟨g, l, h1, h2, h3, h4⟩
  exact ⟨g, l, h1, h2, owns_rd h3, h4⟩

/-- Scaled. -/
theorem scaleP (a : Option Addr) (cap n : Nat) (xs : List UInt8) (f : UInt8) (w : World) (en : n = xs.length) (hr : Rd w a (bs xs)) (hn : n ≤ 1000) :
    Calls Tryd.prog 88 #[.slice a n cap, .int .u8 f.toNat] w fun e w' =>
      ∃ g, e = .returned (.slice (some ⟨g, 0, none⟩) n n) ∧ Rd w' (some ⟨g, 0, none⟩) (bs (Cof.scaleRow xs f)) ∧ Below w.heap.size w w' := by
  subst en
  refine (scaledP a cap xs f w hr hn).mono ?_
  rintro e w' ⟨g, h1, h2, h3⟩
  exact ⟨g, h1, owns_rd h2, h3⟩

end Go.Proofs.YtcegdgmbponapaaDoor
