/-
  The walk of cutting.dealt.
-/
import Derived.Test.YtcegdgmbponapaaDoorWCut
import Derived.Test.YtcegdgmbponapaaDoorDeal
import Derived.Deep.RegionLaw
import Derived.Deep.DrawnRows
namespace Go.Proofs.YtcegdgmbponapaaDoor
open Go.RowKit
attribute [local go_sem ↓] Go.wp_at_zero Go.wp_at_succ

theorem dealRow_succ (text : List UInt8) (width j k : Nat) : Cof.dealRow text width j (k + 1) = if k % width = j then Cof.dealRow text width j k ++ [text.getD k 0] else Cof.dealRow text width j k := by
  unfold Cof.dealRow
  rw [List.range_succ, List.filter_append, List.map_append]
  split
  · rename_i h; simp [h]
  · rename_i h; simp [h]

theorem dealRow_le (text : List UInt8) (width j k : Nat) : (Cof.dealRow text width j k).length ≤ k := by
  unfold Cof.dealRow
  rw [List.length_map]
  exact Nat.le_trans (List.length_filter_le _ _) (by simp)

set_option maxRecDepth 100000 in
set_option maxHeartbeats 1000000 in
theorem dealt_any (s : ByteArray) (width groups : Nat) (w : World) (hw : width ≤ 8) (hg : groups ≤ 60) :
    Calls Tryd.prog 50 #[.string s, .int .i64 width, .int .i64 groups] w fun e w' =>
      ∃ g, e = .returned (.slice (some ⟨g, 0, none⟩) width width) ∧ RdRows w' (some ⟨g, 0, none⟩) (Cof.deal s.data.toList width groups) ∧ Below w.heap.size w w' := by
  obtain ⟨i0, hi, hz0, hz1, hz2⟩ := info_parts Tryd.infoRow
  obtain ⟨i5, hi5, hy0, hy1, hy2⟩ := info_parts Tryd.info5
  have hm : width * groups ≤ 8 * 60 := Nat.mul_le_mul hw hg
  have hmi : (width : Int) * (groups : Int) = ((width * groups : Nat) : Int) := by simp
  have hmb : (width : Int) * (groups : Int) ≤ 480 := by rw [hmi]; omega
  have hma : (0 : Int) ≤ (width : Int) * (groups : Int) := by rw [hmi]; omega
  have HM := hid hmi
  clear hmi
  go_enter Tryd.func50, Tryd.ntmps50
  go_wp2_with (first | (at_make; refine wpList_make_full _ rfl (.tmp 10) (.tmp 10) 66 rfl w.heap.size 60 i0 (.slice none 0 0) 1 Tryd.underlying66 hi hz0 hz1 .i64 .i64 _ _ width rfl rfl rfl rfl (by rw [hz2]; omega) (by unfold maxLen; omega) (Nat.le_refl _) ?_; intro w1 hown1 hgrow1; have hb1 := grown_below hgrow1; have HO1 := hid (made_rows (fun _ => []) hown1).own; clear hown1 hgrow1; obtain ⟨cap1, w2, hconv, hrd2, hb2, hs2⟩ := conv_bytes w1 s; have HS2 := hid hs2; clear hs2) | fail)
  rw [HM.out]
  generalize hN : width * groups = N at *
  have HN := hid hN
  clear hN hmb hma
  refine (filledB _ _ s.data.toList N _ (by exact hrd2) (by omega)).mono ?_
  rintro e w3 ⟨f, rfl, hown3, hb3⟩
  have hg0 : w.heap.size < w1.heap.size := (HO1.out.lt _ rfl).2
  have hf0 : w2.heap.size ≤ f ∧ f < w3.heap.size := hown3.lt f rfl
  have hz12 : w1.heap.size < w2.heap.size := by rw [HS2.out]; omega
  have hb23 : Below w1.heap.size w1 w3 := hb2.trans (hb3.mono (by omega))
  have HF := hid (owns_rd hown3)
  have HD := hid (Deal.start (owns_below HO1.out hb23 (Nat.le_refl _)) (show w.heap.size < w3.heap.size by have := hb23.size; omega) (Nat.le_refl _))
  have hb : Below w.heap.size w w3 := hb1.trans (hb23.mono (by omega))
  clear hown3 hconv hrd2 hb1 hb2 hb3 hb23
  go_wp2
  go_loopw [19] (fun i wr => ∃ (k : Nat) (vs : List Value), k ≤ N ∧ i = .int .i64 k ∧ Deal wr w.heap.size w.heap.size width w3.heap.size (fun j => Cof.dealRow s.data.toList width j k) vs ∧ wr.heap[f]? = w3.heap[f]? ∧ Below w.heap.size w wr)
    (fun i _ => N - (intOf i).toNat)
  case atStart => exact ⟨0, _, Nat.zero_le _, rfl, HD.out, rfl, hb⟩
  case round =>
    obtain ⟨k, vs, hk, rfl, hdeal, hkept, hbel⟩ := hrel
    have HK := hid hkept
    clear hkept
    by_cases hlt : k < N
    · have hw0 : 0 < width := by
        rcases Nat.eq_zero_or_pos width with h | h
        · have := HN.out; rw [h] at this; omega
        · exact h
      obtain ⟨r, hr⟩ : ∃ r, r = k % width := ⟨_, rfl⟩
      have hrw : r < width := by rw [hr]; exact Nat.mod_lt _ hw0
      have hri : (k : Int) % (width : Int) = (r : Int) := by rw [hr]; simp
      have hrt : (k : Int).tmod (width : Int) = (r : Int) := by rw [Int.tmod_eq_emod_of_nonneg (by omega)]; exact hri
      have hwr : IntKind.i64.wrap (r : Int) = r := by rw [IntKind.wrap_i64]; omega
      have hw1 : ((width : Int) == 0) = false := by rw [beq_eq_false_iff_ne]; omega
      have hw2 : width ≠ 0 := by omega
      have hr0 : (0 : Int) ≤ (r : Int) := by omega
      have hr1 : (r : Int) < (width : Int) := by omega
      have HR := hid hr
      clear hr
      obtain ⟨v, hv, hcell, hfr, hown⟩ := hdeal.cell hrw
      obtain ⟨x, hx⟩ : ∃ x, x = s.data.toList.getD k 0 := ⟨_, rfl⟩
      have hsrc : wr.cell? ⟨f, k, none⟩ = some (.int .u8 x.toNat) := by
        rw [World.cell?_of_block (a := ⟨f, k, none⟩) HK.out]
        obtain ⟨b, o, e1, _, e3⟩ := HF.out k (.int .u8 x.toNat) (by rw [bs_get _ _ (by rw [Cof.length_fillRow]; exact hlt), fill_at _ _ _ hlt, hx])
        cases e1
        rw [Nat.zero_add] at e3
        exact e3
      have HX := hid hx
      have HDL := hid hdeal
      have HV := hid hv
      have hle := dealRow_le s.data.toList width r k
      have hB2 : w3.heap.size ≤ wr.heap.size := hdeal.le
      have HOWN := hid hown
      clear hx hdeal hv hown
      have hfar : ∀ c, (wr.alloc (.cells c 5)).cell? ⟨w.heap.size, r, none⟩ = some v ∧ (wr.alloc (.cells c 5)).frozen? ⟨w.heap.size, r, none⟩ = false := fun c => by
        have hb' := (Below.refl wr.heap.size wr).alloc (Nat.le_refl _) (.cells c 5)
        have hg1 : w.heap.size < wr.heap.size := by omega
        exact ⟨(hb'.cell (by exact hg1)).trans hcell, (hb'.frozen (by exact hg1)).trans hfr⟩
      have HFAR := hid hfar
      have hfar1 : ∀ c, (wr.alloc (.cells c 5)).cell? ⟨w.heap.size, r, none⟩ = some v := fun c => (hfar c).1
      have hvb : v.ownBlock ≠ some w.heap.size := by
        intro hc
        have := (HOWN.out.lt _ hc).1
        omega
      clear hfar
      go_wp2_with fail
      go_region_law ((refine step_append_lies _ (by rfl) _ _ _ (by rfl) w3.heap.size 5 i5 (.int .u8 0) 1 1 Tryd.underlying60 hi5 hy0 hy1 hy2 rfl (by omega) v _ _ (by rfl) ((HOWN.out.alloc _).drew) ⟨wr.heap.size, 0, none⟩ 1 1 [.int .u8 x.toNat] (by rfl) (by rfl) (World.news_of_block (cs := #[.int .u8 x.toNat]) (t := 5) (fr := (0, 0)) (heap_alloc_new wr _)) (by simp [Value.oneCell']) (by omega) (by unfold maxLen; omega) (by omega) (by simp; omega) (wr.heap.size + 1) (by simp) ?_; intro g cap w4 hown4 hgrow4 hat4 hlt4; have c1 : w4.cell? ⟨w.heap.size, r, none⟩ = some v := (hgrow4.cell_far _ (by simp; omega) (Ne.symm hvb)).trans (HFAR.out _).1; have f1 : w4.frozen? ⟨w.heap.size, r, none⟩ = false := (hgrow4.frozen_far _ (by simp; omega) (Ne.symm hvb)).trans (HFAR.out _).2))
      all_goals
        have hbW : Below wr.heap.size wr (wr.alloc (.cells #[.int .u8 x.toNat] 5)).drew := ((Below.refl wr.heap.size wr).alloc (Nat.le_refl _) _).drew
        have HST := hid (HDL.out.step (rows' := fun j => Cof.dealRow s.data.toList width j (k + 1)) HV.out hbW hown4 hgrow4 (by simpa using hat4) (by show Cof.dealRow _ _ _ _ = _; rw [dealRow_succ, if_pos HR.out.symm, HX.out]) (fun j hj => by show Cof.dealRow _ _ _ _ = _; rw [dealRow_succ, if_neg (by rw [← HR.out]; omega)]))
        have HKP := hid ((HDL.out.others (u := .slice (some ⟨g, 0, none⟩) ((Cof.dealRow s.data.toList width r k).length + 1) cap) HV.out hbW hgrow4 f hf0.2 (by omega)).trans HK.out)
        have hbf : Below w.heap.size w w4 := ((hbel.trans (hbW.mono hbel.size)).grown hgrow4 (by have := hbel.size; simp; omega) (fun k hk => Nat.le_trans (by omega) (HOWN.out.lt k hk).1))
        clear hown4 hgrow4 hat4 hlt4
        go_wp2
        go_roundw
        case rel => exact ⟨k + 1, _, by omega, by go_num, HST.out, HKP.out, hbf.setCell (Nat.le_refl _) _⟩
        case measure => simp [intOf]; omega
    · have hkn : k = N := by omega
      subst hkn
      have HF2 := hid hdeal.full
      clear hdeal
      go_wp2
      go_ret
      exact ⟨_, rfl, by rw [← HN.out] at HF2; exact HF2.out, hbel⟩

end Go.Proofs.YtcegdgmbponapaaDoor
