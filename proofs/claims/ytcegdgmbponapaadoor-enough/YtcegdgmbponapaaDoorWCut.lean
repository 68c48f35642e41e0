/-
  The walks of package cutting, and of what it takes of slices: run, known, Grow, Concat.
-/
import Derived.Test.YtcegdgmbponapaaDoorWPoly
import Derived.Lib.AppendZeros
namespace Go.Proofs.YtcegdgmbponapaaDoor
open Go.RowKit

theorem u8_of (n : Nat) (h : n < 256) : ((UInt8.ofNat n).toNat : Int) = n := by simp [Nat.mod_eq_of_lt h]

theorem run_full (start count : Nat) : rowTo (fun i => UInt8.ofNat (start + i)) (List.replicate count 0) count count = Cof.run start count := by
  rw [rowTo_full]; rfl

set_option maxRecDepth 100000 in
set_option maxHeartbeats 400000 in
theorem run_any (start count : Nat) (w : World) (hc : start + count ≤ 256) :
    Calls Tryd.prog 52 #[.int .i64 start, .int .i64 count] w fun e w' =>
      ∃ g, e = .returned (.slice (some ⟨g, 0, none⟩) count count) ∧ Rd w' (some ⟨g, 0, none⟩) (bs (Cof.run start count)) ∧ Below w.heap.size w w' ∧ w.heap.size ≤ g := by
  obtain ⟨i0, hi, hz0, hz1, hz2⟩ := info_parts Tryd.infoE
  go_enter Tryd.func52, Tryd.ntmps52
  go_wp2_with (first | (at_make; refine wpList_make_full _ rfl (.tmp 7) (.tmp 7) 86 rfl w.heap.size 95 i0 (.int .u8 0) 1 Tryd.underlying86 hi hz0 hz1 .i64 .i64 _ _ count rfl rfl rfl rfl (by rw [hz2]; omega) (by unfold maxLen; omega) (Nat.le_refl _) ?_; intro w1 hown1 hgrow1; have hb1 := grown_below hgrow1; have HO1 := hid (made_row hown1); clear hown1 hgrow1) | fail)
  go_loopw [11] (fun i wr => ∃ k : Nat, k ≤ count ∧ i = .int .i64 k ∧ wr.ownsRow w.heap.size 95 1 (.slice (some ⟨w.heap.size, 0, none⟩) count count) count (bs (rowTo (fun i => UInt8.ofNat (start + i)) (List.replicate count 0) count k)) ∧ Below w.heap.size w wr)
    (fun i _ => count - (intOf i).toNat)
  case atStart =>
    refine ⟨0, Nat.zero_le _, rfl, ?_, hb1⟩
    rw [rowTo_zero _ _ _ (by simp)]
    exact HO1.out
  case round =>
    obtain ⟨k, hk, rfl, hown, hbel⟩ := hrel
    by_cases hlt : k < count
    · have hs := hown.frozenAt k
      have hn := row_next hown hlt
      have HST := hid (stored_row (u := UInt8.ofNat (start + k)) hown rfl)
      rw [u8_of _ (by omega)] at HST
      clear hown
      go_wp2
      go_roundw
      case rel => exact ⟨k + 1, by omega, by go_num, HST.out, hbel.setCell (Nat.le_refl _) _⟩
      case measure => simp [intOf]; omega
    · have hkn : k = count := by omega
      subst hkn
      rw [run_full] at hown
      have HO := hid (owns_rd hown)
      clear hown
      go_wp2
      go_ret
      exact ⟨_, rfl, HO.out, hbel, Nat.le_refl _⟩

theorem Tryd.infoRow : (Tryd.prog.info? 60).map (fun i => (i.zero, i.size, i.bytes)) = some (some (.slice none 0 0), 1, 24) := by kernel_rfl

theorem grown_room (w : World) (e : TypeId) (z : Value) (n cap : Nat) (hz : z.cells.size = 1) (hc : n ≤ cap) (hm : cap ≤ maxLen) :
    (w.drew.alloc (.cells (Builtin.zeroCells z.cells n ++ Builtin.zeroCells z.cells (cap - n)) e)).ownsRow w.heap.size e 1 (.slice (some ⟨w.heap.size, 0, none⟩) 0 cap) 0 [] := by
  have := World.ownsRow_made (base := w.heap.size) (e := e) (size := 1) w.drew (Builtin.zeroCells z.cells n ++ Builtin.zeroCells z.cells (cap - n)) cap (Nat.le_refl _) hm (by simp [size_zeroCells, hz]; omega)
  exact this

set_option maxRecDepth 100000 in
set_option maxHeartbeats 400000 in
theorem growE (n : Nat) (w : World) (hn : n ≤ 1000) :
    Calls Tryd.prog 63 #[.slice none 0 0, .int .i64 n] w fun e w' => ∃ v, e = .returned v ∧ w'.ownsRow w.heap.size 95 1 v 0 [] ∧ Below w.heap.size w w' := by
  obtain ⟨i0, hi, hz0, hz1, hz2⟩ := info_parts Tryd.infoE
  by_cases h0 : n = 0
  · subst h0
    go_enter Tryd.func63, Tryd.ntmps63
    go_wp2
    go_ret
    exact ⟨_, rfl, World.ownsRow_nil _ _ _ _, Below.refl _ _⟩
  · have hrun : ∀ ty, (Builtin.append_ #[86, 3] ty #[.slice none 0 0, .int .i64 n]).run Tryd.prog w = _ := fun ty => Lib.run_append_nil_zeros w 86 3 ty 95 i0 (Value.int .u8 0) .i64 .i64 Tryd.underlying86 Tryd.underlying3 hi hz0 n (by omega) (by omega) (by omega) (by rw [hz2]; omega)
    have hg := grownCap_ge w n 0 95
    have hm := grownCap_le_maxLen w n 0 95 (by unfold maxLen; omega)
    have HO := hid (grown_room w 95 (Value.int .u8 0) n (grownCap w n 0 95) rfl hg hm)
    have HB := hid (((Below.refl w.heap.size w).drew).alloc (Nat.le_refl _) (.cells (Builtin.zeroCells (Value.int .u8 0).cells n ++ Builtin.zeroCells (Value.int .u8 0).cells (grownCap w n 0 95 - n)) 95))
    generalize grownCap w n 0 95 = cap at *
    generalize (w.drew.alloc (.cells (Builtin.zeroCells (Value.int .u8 0).cells n ++ Builtin.zeroCells (Value.int .u8 0).cells (cap - n)) 95)) = w1 at *
    have HR := hid hrun
    clear hrun
    unfold maxLen at hm
    go_enter Tryd.func63, Tryd.ntmps63
    go_wp2_with (first | (at_builtin; refine Lib.wpList_append_run _ rfl (.tmp 20) (.tmp 21) _ _ rfl _ _ rfl rfl _ _ (HR.out _) ?_) | fail)
    go_ret
    exact ⟨_, rfl, HO.out, HB.out⟩
set_option maxRecDepth 100000 in
set_option maxHeartbeats 400000 in
theorem growR (n : Nat) (w : World) (hn : n ≤ 1000) :
    Calls Tryd.prog 64 #[.slice none 0 0, .int .i64 n] w fun e w' => ∃ v, e = .returned v ∧ w'.ownsRow w.heap.size 60 1 v 0 [] ∧ Below w.heap.size w w' := by
  obtain ⟨i0, hi, hz0, hz1, hz2⟩ := info_parts Tryd.infoRow
  by_cases h0 : n = 0
  · subst h0
    go_enter Tryd.func64, Tryd.ntmps64
    go_wp2
    go_ret
    exact ⟨_, rfl, World.ownsRow_nil _ _ _ _, Below.refl _ _⟩
  · have hrun : ∀ ty, (Builtin.append_ #[66, 3] ty #[.slice none 0 0, .int .i64 n]).run Tryd.prog w = _ := fun ty => Lib.run_append_nil_zeros w 66 3 ty 60 i0 (Value.slice none 0 0) .i64 .i64 Tryd.underlying66 Tryd.underlying3 hi hz0 n (by omega) (by omega) (by omega) (by rw [hz2]; omega)
    have hg := grownCap_ge w n 0 60
    have hm := grownCap_le_maxLen w n 0 60 (by unfold maxLen; omega)
    have HO := hid (grown_room w 60 (Value.slice none 0 0) n (grownCap w n 0 60) rfl hg hm)
    have HB := hid (((Below.refl w.heap.size w).drew).alloc (Nat.le_refl _) (.cells (Builtin.zeroCells (Value.slice none 0 0).cells n ++ Builtin.zeroCells (Value.slice none 0 0).cells (grownCap w n 0 60 - n)) 60))
    generalize grownCap w n 0 60 = cap at *
    generalize (w.drew.alloc (.cells (Builtin.zeroCells (Value.slice none 0 0).cells n ++ Builtin.zeroCells (Value.slice none 0 0).cells (cap - n)) 60)) = w1 at *
    have HR := hid hrun
    clear hrun
    unfold maxLen at hm
    go_enter Tryd.func64, Tryd.ntmps64
    go_wp2_with (first | (at_builtin; refine Lib.wpList_append_run _ rfl (.tmp 20) (.tmp 21) _ _ rfl _ _ rfl rfl _ _ (HR.out _) ?_) | fail)
    go_ret
    exact ⟨_, rfl, HO.out, HB.out⟩

set_option maxRecDepth 100000 in
set_option maxHeartbeats 1000000 in
theorem concatE (b n1 c1 n2 c2 : Nat) (a1 a2 : Option Addr) (X1 X2 : List Value) (w : World) (hbs : b < w.heap.size)
    (k0 : w.cell? ⟨b, 0, none⟩ = some (.slice a1 n1 c1)) (k1 : w.cell? ⟨b, 1, none⟩ = some (.slice a2 n2 c2))
    (r1 : Rd w a1 X1) (r2 : Rd w a2 X2) (l1 : X1.length = n1) (l2 : X2.length = n2) (z1 : a1 = none → c1 = 0) (z2 : a2 = none → c2 = 0)
    (o1 : ∀ u ∈ X1, u.oneCell' = true) (o2 : ∀ u ∈ X2, u.oneCell' = true) (hn1 : n1 ≤ 400) (hn2 : n2 ≤ 400) :
    Calls Tryd.prog 48 #[.slice (some ⟨b, 0, none⟩) 2 2] w fun e w' => ∃ v, e = .returned v ∧ w'.ownsRow w.heap.size 95 1 v (n1 + n2) (X1 ++ X2) ∧ Below w.heap.size w w' := by
  obtain ⟨i0, hi, hz0, hz1, hz2⟩ := info_parts Tryd.infoE
  have L1 := hid l1
  have L2 := hid l2
  clear l1 l2
  go_enter Tryd.func48, Tryd.ntmps48
  go_wp2
  refine wp_loop_rounds 3 ?_
  rw [rounds_succ]
  go_wp2
  rw [rounds_succ]
  go_wp2
  rw [rounds_succ]
  go_wp2_with fail
  refine (growE (n1 + n2) _ (by omega)).mono ?_
  rintro e w1 ⟨v1, rfl, hown1, hb1⟩
  have HO1 := hid hown1
  clear hown1
  have j0 : w1.cell? ⟨b, 0, none⟩ = some (.slice a1 n1 c1) := (hb1.cell (by exact hbs)).trans k0
  go_wp2
  refine wp_loop_rounds 3 ?_
  rw [rounds_succ]
  go_wp2_with (first | (at_builtin; refine append_src _ rfl (.tmp 31) (.tmp 32) 86 rfl w.heap.size 95 i0 (Value.int .u8 0) 1 Tryd.underlying86 hi hz0 hz1 hz2 rfl _ 0 [] rfl HO1.out a1 n1 c1 X1 rfl L1.out (r1.below hb1 (Nat.le_refl _)) z1 o1 (by omega) (by omega) hb1.size ?_; intro v2 w2 hown2 hgrow2; rw [Nat.zero_add, List.nil_append] at hown2; have hb2 : Below w.heap.size w w2 := hb1.grown hgrow2 hb1.size (fun k hk => (HO1.out.lt k hk).1); have HO2 := hid hown2; clear hown2 hgrow2; have j1 : w2.cell? ⟨b, 1, none⟩ = some (.slice a2 n2 c2) := (hb2.cell (by exact hbs)).trans k1) | fail)
  rw [rounds_succ]
  go_wp2_with (first | (at_builtin; refine append_src _ rfl (.tmp 31) (.tmp 32) 86 rfl w.heap.size 95 i0 (Value.int .u8 0) 1 Tryd.underlying86 hi hz0 hz1 hz2 rfl _ n1 X1 rfl HO2.out a2 n2 c2 X2 rfl L2.out (r2.below hb2 (Nat.le_refl _)) z2 o2 (by omega) (by omega) hb2.size ?_; intro v3 w3 hown3 hgrow3; have hb3 : Below w.heap.size w w3 := hb2.grown hgrow3 hb2.size (fun k hk => (HO2.out.lt k hk).1); have HO3 := hid hown3; clear hown3 hgrow3) | fail)
  rw [rounds_succ]
  go_wp2
  go_ret
  exact ⟨_, rfl, HO3.out, hb3⟩
set_option maxRecDepth 100000 in
set_option maxHeartbeats 1000000 in
theorem concatR (b n1 c1 n2 c2 : Nat) (a1 a2 : Option Addr) (X1 X2 : List Value) (w : World) (hbs : b < w.heap.size)
    (k0 : w.cell? ⟨b, 0, none⟩ = some (.slice a1 n1 c1)) (k1 : w.cell? ⟨b, 1, none⟩ = some (.slice a2 n2 c2))
    (r1 : Rd w a1 X1) (r2 : Rd w a2 X2) (l1 : X1.length = n1) (l2 : X2.length = n2) (z1 : a1 = none → c1 = 0) (z2 : a2 = none → c2 = 0)
    (o1 : ∀ u ∈ X1, u.oneCell' = true) (o2 : ∀ u ∈ X2, u.oneCell' = true) (hn1 : n1 ≤ 400) (hn2 : n2 ≤ 400) :
    Calls Tryd.prog 49 #[.slice (some ⟨b, 0, none⟩) 2 2] w fun e w' => ∃ v, e = .returned v ∧ w'.ownsRow w.heap.size 60 1 v (n1 + n2) (X1 ++ X2) ∧ Below w.heap.size w w' := by
  obtain ⟨i0, hi, hz0, hz1, hz2⟩ := info_parts Tryd.infoRow
  have L1 := hid l1
  have L2 := hid l2
  clear l1 l2
  go_enter Tryd.func49, Tryd.ntmps49
  go_wp2
  refine wp_loop_rounds 3 ?_
  rw [rounds_succ]
  go_wp2
  rw [rounds_succ]
  go_wp2
  rw [rounds_succ]
  go_wp2_with fail
  refine (growR (n1 + n2) _ (by omega)).mono ?_
  rintro e w1 ⟨v1, rfl, hown1, hb1⟩
  have HO1 := hid hown1
  clear hown1
  have j0 : w1.cell? ⟨b, 0, none⟩ = some (.slice a1 n1 c1) := (hb1.cell (by exact hbs)).trans k0
  go_wp2
  refine wp_loop_rounds 3 ?_
  rw [rounds_succ]
  go_wp2_with (first | (at_builtin; refine append_src _ rfl (.tmp 31) (.tmp 32) 66 rfl w.heap.size 60 i0 (Value.slice none 0 0) 24 Tryd.underlying66 hi hz0 hz1 hz2 rfl _ 0 [] rfl HO1.out a1 n1 c1 X1 rfl L1.out (r1.below hb1 (Nat.le_refl _)) z1 o1 (by omega) (by omega) hb1.size ?_; intro v2 w2 hown2 hgrow2; rw [Nat.zero_add, List.nil_append] at hown2; have hb2 : Below w.heap.size w w2 := hb1.grown hgrow2 hb1.size (fun k hk => (HO1.out.lt k hk).1); have HO2 := hid hown2; clear hown2 hgrow2; have j1 : w2.cell? ⟨b, 1, none⟩ = some (.slice a2 n2 c2) := (hb2.cell (by exact hbs)).trans k1) | fail)
  rw [rounds_succ]
  go_wp2_with (first | (at_builtin; refine append_src _ rfl (.tmp 31) (.tmp 32) 66 rfl w.heap.size 60 i0 (Value.slice none 0 0) 24 Tryd.underlying66 hi hz0 hz1 hz2 rfl _ n1 X1 rfl HO2.out a2 n2 c2 X2 rfl L2.out (r2.below hb2 (Nat.le_refl _)) z2 o2 (by omega) (by omega) hb2.size ?_; intro v3 w3 hown3 hgrow3; have hb3 : Below w.heap.size w w3 := hb2.grown hgrow3 hb2.size (fun k hk => (HO2.out.lt k hk).1); have HO3 := hid hown3; clear hown3 hgrow3) | fail)
  rw [rounds_succ]
  go_wp2
  go_ret
  exact ⟨_, rfl, HO3.out, hb3⟩

end Go.Proofs.YtcegdgmbponapaaDoor
