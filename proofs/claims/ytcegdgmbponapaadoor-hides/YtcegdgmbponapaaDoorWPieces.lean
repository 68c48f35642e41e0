/-
  The walk of cofferkeep.pieces where nothing is refused.
-/
import Derived.Test.YtcegdgmbponapaaDoorPieceRows
namespace Go.Proofs.YtcegdgmbponapaaDoor
open Go.RowKit
attribute [local go_sem ↓] Go.wp_at_zero Go.wp_at_succ

set_option maxRecDepth 100000 in
set_option maxHeartbeats 1000000 in
theorem pieces_ok (mode t l n : Nat) (v tape : ByteArray) (ss : List Nat) (aS : Option Addr) (m cs : Nat) (w : World) (h : IsPlan mode t l n) (hv : v.size ≤ 60) (htp : Cof.tsize mode t * Cof.ngroups mode t l v.size ≤ tape.size)
    (em : m = ss.length) (hr : Rd w aS (ints ss)) (hss : ∀ s ∈ ss, s < n) (hm : m ≤ 100) :
    Calls Tryd.prog 22 #[.string v, .agg #[.int .i64 mode, .int .i64 t, .int .i64 l], .int .i64 n, .string tape, .slice aS m cs] w fun e w' =>
      ∃ r, e = .returned (.tuple #[r, .bool true]) ∧ w'.ownsRow w.heap.size 57 2 r m (pcs (Cof.split v.data.toList mode t l n tape.data.toList) ss) ∧ Below w.heap.size w w' := by
  obtain ⟨i0, hi, hz0, hz1, hz2⟩ := info_parts Tryd.infoPiece
  have hn8 := h.n8
  have EM := hid em
  clear em
  go_enter Tryd.func22, Tryd.ntmps22
  go_wp2_with fail
  refine (split_ok mode t l n v tape _ h hv htp).mono ?_
  rintro e w1 ⟨g1, rfl, hown1, hb1⟩
  generalize hR : Cof.split v.data.toList mode t l n tape.data.toList = rows at *
  have hRl : rows.length = n := by rw [← hR]; exact split_length _ _ _ _ _ _
  have HR := hid hR
  have HRL := hid hRl
  clear hR hRl
  have hb01 : Below w.heap.size w w1 := ((Below.refl _ _).alloc (Nat.le_refl _) _).trans (hb1.mono (by simp))
  have HO1 := hid hown1
  have hg1 := hown1.lt g1 rfl
  have hz01 := hb01.size
  clear hb1 hown1
  go_wp2_with fail
  go_loopw [14, 15] (fun o i wr => ∃ k : Nat, k ≤ m ∧ i = .int .i64 k ∧ wr.ownsRow w1.heap.size 57 2 o k (pcs rows (ss.take k)) ∧ Below w1.heap.size w1 wr)
    (fun _ i _ => m - (intOf i).toNat)
  case atStart => exact ⟨0, Nat.zero_le _, rfl, World.ownsRow_nil _ _ _ _, Below.refl _ _⟩
  case round =>
    obtain ⟨k, hk, rfl, hown, hbel⟩ := hrel
    have hzb := hbel.size
    by_cases hlt : k < m
    · have hkl : k < ss.length := by rw [← EM.out]; exact hlt
      obtain ⟨bS, oS, rfl, hbS, hcS⟩ := hr.pos (by simp [ints]; omega)
      obtain ⟨sk, hsk⟩ : ∃ sk, sk = ss[k] := ⟨_, rfl⟩
      have hsn : sk < n := by rw [hsk]; exact hss _ (List.getElem_mem hkl)
      have hcs : wr.cell? ⟨bS, oS + k, none⟩ = some (.int .i64 sk) := by
        rw [hbel.cell (by show bS < w1.heap.size; omega), hb01.cell (by exact hbS), hcS k _ (ints_get _ _ hkl), hsk]
      obtain ⟨p, hp⟩ : ∃ p : ByteArray, str (rows.getD sk []) = .string p := ⟨_, rfl⟩
      have hcl : wr.cell? ⟨g1, sk, none⟩ = some (.string p) := by
        rw [hbel.cell (by show g1 < w1.heap.size; omega), HO1.out.cellAt sk (by omega), ← hp]
        simp only [strs, List.getElem?_map]
        rw [List.getElem?_eq_getElem (by rw [HRL.out]; exact hsn)]
        simp [HRL.out, hsn]
      have hk0 : (0 : Int) ≤ (k : Int) := by omega
      have hk1 : (k : Int) < (m : Int) := by omega
      have hs0 : (0 : Int) ≤ (sk : Int) := by omega
      have hs1 : (sk : Int) < (n : Int) := by omega
      have hsn := hid (pcs_snoc rows ss k hkl)
      rw [← hsk, hp] at hsn
      have HO := hid hown
      generalize pcs rows (ss.take k) = xs at *
      clear hown hsk hp hcS
      have hnb : ∀ b, b < w1.heap.size → u14.ownBlock ≠ some b := fun b hb hc => by
        have := (HO.out.lt b hc).1
        omega
      have nS := hnb bS (by omega)
      have nG := hnb g1 (by omega)
      have HNB := hid hnb
      clear hnb
      go_wp2_with fail
      go_region_held3 (fun w' => w'.cell? ⟨bS, oS + k, none⟩ = some (.int .i64 sk) ∧ w'.cell? ⟨g1, sk, none⟩ = some (.string p)) (first | exact ⟨q1, q2⟩ | exact ⟨((((Below.refl wr.heap.size wr).alloc (Nat.le_refl _) _).drew).cell (by show bS < wr.heap.size; omega)).trans hcs, ((((Below.refl wr.heap.size wr).alloc (Nat.le_refl _) _).drew).cell (by show g1 < wr.heap.size; omega)).trans hcl⟩ | go_keep)
        ((refine step_append_lies _ (by rfl) _ _ _ (by rfl) w1.heap.size 57 i0 _ 2 24 Tryd.underlying39 hi hz0 hz1 hz2 rfl (by omega) u14 k xs (by rfl) ((HO.out.alloc _).drew) ⟨wr.heap.size, 0, none⟩ 1 1 [.int .i64 sk, .string p] (by rfl) (by rfl) (World.news_of_block (cs := #[.int .i64 sk, .string p]) (t := 57) (fr := (0, 0)) (heap_alloc_new wr _)) (by simp [Value.oneCell']) (by omega) (by unfold maxLen; omega) (by omega) (by simp; omega) (wr.heap.size + 1) (by simp) ?_; intro g cap w4 hown4 hgrow4 hat4 hlt4; have q1 : w4.cell? ⟨bS, oS + k, none⟩ = some (.int .i64 sk) := (hgrow4.cell_far _ (by simp; omega) (Ne.symm nS)).trans (((((Below.refl wr.heap.size wr).alloc (Nat.le_refl _) _).drew).cell (by show bS < wr.heap.size; omega)).trans hcs); have q2 : w4.cell? ⟨g1, sk, none⟩ = some (.string p) := (hgrow4.cell_far _ (by simp; omega) (Ne.symm nG)).trans (((((Below.refl wr.heap.size wr).alloc (Nat.le_refl _) _).drew).cell (by show g1 < wr.heap.size; omega)).trans hcl)))
      have hb4 : Below w1.heap.size w1 w4 := (((hbel.alloc hzb _).drew).grown hgrow4 (by simp; omega) (fun b hb => (HO.out.lt b hb).1))
      have HO4 := hid hown4
      rw [← hsn.out] at HO4
      clear hown4 hgrow4 hat4 hlt4 q1 q2 nS nG
      go_wp2
      go_roundw
      case rel => exact ⟨k + 1, by omega, by go_num, HO4.out, hb4⟩
      case measure => simp [intOf]; omega
    · have hkn : k = m := by omega
      subst hkn
      rw [List.take_of_length_le (by rw [← EM.out]; exact Nat.le_refl _)] at hown
      have HO := hid hown
      clear hown
      go_wp2
      go_ret2
      refine ⟨_, rfl, ?_, hb01.trans (hbel.mono hz01)⟩
      rw [HR.out]
      obtain ⟨o1, o2⟩ := HO.out
      refine ⟨o1, ?_⟩
      rcases o2 with o2 | ⟨g, cap, cur, e1, e2, e3⟩
      · exact .inl o2
      · exact .inr ⟨g, cap, cur, e1, by omega, e3⟩

end Go.Proofs.YtcegdgmbponapaaDoor
