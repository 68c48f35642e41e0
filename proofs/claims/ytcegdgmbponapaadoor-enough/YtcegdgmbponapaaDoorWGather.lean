/-
  The walk of cutting.gathered.
-/
import Derived.Test.YtcegdgmbponapaaDoorWChecks
import Derived.Test.YtcegdgmbponapaaDoorTwo
import Derived.Test.YtcegdgmbponapaaDoorJoinMath
namespace Go.Proofs.YtcegdgmbponapaaDoor
open Go.RowKit
attribute [local go_sem ↓] Go.wp_at_zero Go.wp_at_succ

theorem gather_succ (rows : List (List UInt8)) (g : Nat) : Cof.gather rows (g + 1) = Cof.gather rows g ++ rows.map fun r => r.getD g 0 := by simp [Cof.gather, List.range_succ]

set_option maxRecDepth 100000 in
set_option maxHeartbeats 1000000 in
theorem gathered_any (aR : Option Addr) (W c G : Nat) (rows : List (List UInt8)) (w : World) (ew : W = rows.length) (hr : RdRows w aR rows) (hW : W ≤ 8) (hG : G ≤ 60) (hlen : ∀ k, k < W → G ≤ (rows.getD k []).length) (hlen2 : ∀ k, (rows.getD k []).length ≤ 500) :
    Calls Tryd.prog 58 #[.slice aR W c, .int .i64 G] w fun e w' => ∃ v, e = .returned v ∧ w'.ownsRow w.heap.size 5 1 v (G * W) (bs (Cof.gather rows G)) ∧ Below w.heap.size w w' := by
  obtain ⟨i0, hi, hz0, hz1, hz2⟩ := info_parts Tryd.info5
  have EW := hid ew
  have HL := hid hlen
  have HL2 := hid hlen2
  clear ew hlen hlen2
  go_enter Tryd.func58, Tryd.ntmps58
  go_wp2_with fail
  go_loopw [5, 10] (fun o i wr => ∃ g : Nat, g ≤ G ∧ i = .int .i64 g ∧ wr.ownsRow w.heap.size 5 1 o (g * W) (bs (Cof.gather rows g)) ∧ Below w.heap.size w wr) (fun _ i _ => G - (intOf i).toNat)
  case atStart => exact ⟨0, Nat.zero_le _, rfl, by rw [Nat.zero_mul]; exact World.ownsRow_nil _ _ _ _, Below.refl _ _⟩
  case round =>
    obtain ⟨g, hg, rfl, hown, hbel⟩ := hrel
    by_cases hlt : g < G
    · obtain ⟨Z, hZ⟩ : ∃ Z, Z = Cof.gather rows g := ⟨_, rfl⟩
      rw [← hZ] at hown
      have hZl : Z.length = g * W := by rw [hZ, Cof.gather_length, EW.out]
      have hgW : g * W ≤ 480 := Nat.mul_le_mul (show g ≤ 60 by omega) hW
      have HZ := hid hZ
      have HZL := hid hZl
      clear hZ hZl
      go_wp2_with fail
      go_loopw [5, 15] (fun o i wq => ∃ j : Nat, j ≤ W ∧ i = .int .i64 j ∧ wq.ownsRow w.heap.size 5 1 o (Z ++ (rows.take j).map fun r => r.getD g 0).length (bs (Z ++ (rows.take j).map fun r => r.getD g 0)) ∧ Below w.heap.size w wq) (fun _ i _ => W - (intOf i).toNat)
      case atStart => exact ⟨0, Nat.zero_le _, rfl, by rw [List.take_zero, List.map_nil, List.append_nil, HZL.out]; exact hown, hbel⟩
      case round =>
        obtain ⟨j, hj, rfl, hown2, hbq⟩ := hrel
        have hzq := hbq.size
        by_cases hjW : j < W
        · have hjl : j < rows.length := by rw [← EW.out]; exact hjW
          obtain ⟨b, o, a', cap', rfl, hb, h1, h2⟩ := hr.at j hjl
          have c1 : wr.cell? ⟨b, o + j, none⟩ = some (.slice a' (rows.getD j []).length cap') := (hbq.cell (by exact hb)).trans h1
          have hgl : g < (rows.getD j []).length := Nat.lt_of_lt_of_le hlt (HL.out j hjW)
          obtain ⟨x, hx⟩ : ∃ x, x = (rows.getD j []).getD g 0 := ⟨_, rfl⟩
          obtain ⟨b2, o2, rfl, hb2, h3⟩ := h2.pos (by rw [bs_length]; omega)
          have c2 : wr.cell? ⟨b2, o2 + g, none⟩ = some (.int .u8 x.toNat) := (hbq.cell (by exact hb2)).trans (by rw [hx]; exact h3 g _ (bs_get _ _ hgl))
          have HR := hid (show Z ++ (rows.take (j + 1)).map (fun r => r.getD g 0) = (Z ++ (rows.take j).map (fun r => r.getD g 0)) ++ [x] by
            rw [List.take_succ_eq_append_getElem hjl, List.map_append, List.append_assoc, hx]; simp [hjl])
          have hl1 : (Z ++ (rows.take j).map (fun r => r.getD g 0)).length ≤ 500 := by rw [List.length_append, HZL.out, List.length_map, List.length_take]; omega
          have hrl := HL2.out j
          have HO := hid hown2
          generalize Z ++ (rows.take j).map (fun r => r.getD g 0) = Y at *
          generalize (rows.getD j []).length = rl at *
          have hj1 : (j : Int) < (W : Int) := by omega
          have hg1 : (g : Int) < (rl : Int) := by omega
          clear h1 h2 h3 hx hown2 hr hown
          go_wp2_with (first | (at_builtin; refine wpList_append_own _ rfl (.tmp 19) (.tmp 24) 60 rfl w.heap.size 5 i0 (.int .u8 0) 1 1 Tryd.underlying60 hi hz0 hz1 hz2 rfl (by decide) _ _ (bs Y) rfl (HO.out.alloc _) ⟨wr.heap.size, 0, none⟩ 1 1 [.int .u8 x.toNat] rfl rfl (World.news_of_block (cs := #[.int .u8 x.toNat]) (t := 5) (fr := (0, 0)) (heap_alloc_new wr _)) (by simp [Value.oneCell']) (by unfold maxLen; omega) (by omega) (by simp; omega) ?_; intro v5 w5 hown5 hgrow5 _; have hb5 : Below w.heap.size w w5 := (hbq.alloc hzq _).grown hgrow5 (by simp; omega) (fun b hb => (HO.out.lt b hb).1); rw [← bs_snoc] at hown5; have HO5 := hid hown5; clear hown5 hgrow5) | fail)
          go_roundw
          case rel => exact ⟨j + 1, by omega, by go_num, by rw [HR.out, List.length_append]; exact HO5.out, hb5⟩
          case measure => simp [intOf]; omega
        · have hj1 : ¬ (j : Int) < (W : Int) := by omega
          have hjn : j = W := by omega
          have hfin : wr.ownsRow w.heap.size 5 1 u5 ((g + 1) * W) (bs (Cof.gather rows (g + 1))) := by
            rw [hjn, List.take_of_length_le (by rw [← EW.out]; exact Nat.le_refl _), HZ.out, ← gather_succ, Cof.gather_length, ← EW.out] at hown2
            exact hown2
          have HF := hid hfin
          clear hfin hjn hown2 hown
          go_wp2_with fail
          go_roundw
          case rel => exact ⟨g + 1, by omega, by go_num, HF.out, hbq⟩
          case measure => simp [intOf]; omega
    · have hg1 : ¬ (g : Int) < (G : Int) := by omega
      have hgn : g = G := by omega
      rw [hgn] at hown
      have HO := hid hown
      clear hown hgn
      go_wp2_with fail
      go_ret
      exact ⟨_, rfl, HO.out, hbel⟩
end Go.Proofs.YtcegdgmbponapaaDoor
