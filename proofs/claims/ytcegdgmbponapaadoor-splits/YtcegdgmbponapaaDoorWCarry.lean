/-
  The walk of cutting.carried.
-/
import Derived.Test.YtcegdgmbponapaaDoorWCut
import Derived.Deep.RegionWith
import Derived.Deep.DrawnRows
namespace Go.Proofs.YtcegdgmbponapaaDoor
open Go.RowKit
attribute [local go_sem ↓] Go.wp_at_zero Go.wp_at_succ

theorem carryTo_le (frm : List UInt8) (rows : List (List UInt8)) (x : UInt8) (R : Nat) (h : ∀ k, (rows.getD k []).length ≤ R) (k : Nat) : (Cof.carryTo frm rows x k).length ≤ R := by
  induction k with
  | zero => simp [Cof.carryTo]
  | succ k ih => rw [Cof.carryTo, Cof.length_sumRow, Cof.length_scaleRow]; exact Nat.max_le.2 ⟨ih, h k⟩

theorem basis_le (xs : List UInt8) (k : Nat) : (Cof.basis xs k).length ≤ xs.length + 1 := by
  rw [Cof.basis, Cof.length_scaleRow]; exact (basisTo_bounds xs k xs.length).2

theorem bases_at (xs : List UInt8) (k : Nat) (h : k < xs.length) : (Cof.bases xs).getD k [] = Cof.basis xs k := by simp [Cof.bases, h]

set_option maxRecDepth 100000 in
set_option maxHeartbeats 1000000 in
theorem carried_any (af ar at' : Option Addr) (nf cf nr cr nt ct : Nat) (frm to : List UInt8) (rows : List (List UInt8)) (w : World) (ef : nf = frm.length) (er : nr = rows.length) (et : nt = to.length)
    (hf : Rd w af (bs frm)) (hr : RdRows w ar rows) (ht : Rd w at' (bs to)) (hn : nf ≤ 100) (hrf : nr ≤ nf) (hnt : nt ≤ 100) (hlen : ∀ k, (rows.getD k []).length ≤ 500) :
    Calls Tryd.prog 51 #[.slice af nf cf, .slice ar nr cr, .slice at' nt ct] w fun e w' =>
      ∃ g, e = .returned (.slice (some ⟨g, 0, none⟩) nt nt) ∧ RdRows w' (some ⟨g, 0, none⟩) (Cof.carry frm rows to) ∧ Below w.heap.size w w' := by
  obtain ⟨i0, hi, hz0, hz1, hz2⟩ := info_parts Tryd.infoRow
  have HEF := hid ef
  have HER := hid er
  have HET := hid et
  clear ef er et
  go_enter Tryd.func51, Tryd.ntmps51
  go_wp2_with (first | (go_at_call 66; refine (bases_any _ _ _ frm _ HEF.out hf (by omega)).mono ?_; rintro e w1 ⟨gb, rfl, hbases, hb1⟩) | (at_make; refine wpList_make_full _ rfl (.tmp 16) (.tmp 16) 66 rfl w1.heap.size 60 i0 (.slice none 0 0) 1 Tryd.underlying66 hi hz0 hz1 .i64 .i64 _ _ nt rfl rfl rfl rfl (by rw [hz2]; omega) (by unfold maxLen; omega) (Nat.le_refl _) ?_; intro w2 hown2 hgrow2; have hb2 := grown_below hgrow2; have HO2 := hid (made_rows (fun i => Cof.carryTo frm rows (to.getD i 0) rows.length) hown2); clear hown2 hgrow2))
  go_loopw [20] (fun i wr => ∃ (k : Nat) (vs : List Value), k ≤ nt ∧ i = .int .i64 k ∧ Rows wr w1.heap.size w1.heap.size nt k 60 (fun i => Cof.carryTo frm rows (to.getD i 0) rows.length) vs ∧ (∀ (j : Nat) (v : Value), k ≤ j → vs[j]? = some v → v = .slice none 0 0) ∧ Below w1.heap.size w1 wr)
    (fun i _ => nt - (intOf i).toNat)
  case atStart =>
    refine ⟨0, _, Nat.zero_le _, rfl, HO2.out, ?_, hb2⟩
    intro j v _ hv
    rw [List.getElem?_replicate] at hv
    split at hv
    · simp at hv; exact hv.symm
    · cases hv
  case round =>
    obtain ⟨i, vs, hi', rfl, hrows, hrest, hbel⟩ := hrel
    by_cases hlt : i < nt
    · have hltl : i < to.length := by rw [← HET.out]; exact hlt
      obtain ⟨bt, ot, rfl, hbts, hcellt⟩ := ht.pos (by rw [bs_length]; omega)
      obtain ⟨x, hx⟩ : ∃ x, x = to.getD i 0 := ⟨_, rfl⟩
      have hct : wr.cell? ⟨bt, ot + i, none⟩ = some (.int .u8 x.toNat) := by rw [hbel.cell (by show bt < w1.heap.size; have := hb1.size; omega), hb1.cell (by exact hbts)]; exact hcellt i _ (by rw [bs_get _ _ hltl, hx])
      have HX := hid hx
      have HRW := hid hrows
      have HRS := hid hrest
      clear hcellt hx hrows hrest
      go_wp2
      go_loopw [27] (fun c wr => ∃ (k : Nat) (vs : List Value) (a : Option Addr) (l cap : Nat), k ≤ nr ∧ c = .int .i64 k ∧ Rows wr w1.heap.size w1.heap.size nt i 60 (fun i => Cof.carryTo frm rows (to.getD i 0) rows.length) vs ∧ vs[i]? = some (.slice a l cap) ∧ l = (Cof.carryTo frm rows x k).length ∧ Rd wr a (bs (Cof.carryTo frm rows x k)) ∧ (∀ (j : Nat) (v : Value), i < j → vs[j]? = some v → v = .slice none 0 0) ∧ Below w1.heap.size w1 wr)
        (fun c _ => nr - (intOf c).toNat)
      case atStart =>
        obtain ⟨v, hv⟩ : ∃ v, vs[i]? = some v := ⟨_, List.getElem?_eq_getElem (by have := (block_of_owns HRW.out.own).2.2; omega)⟩
        have := HRS.out i v (Nat.le_refl _) hv
        subst this
        exact ⟨0, vs, none, 0, 0, Nat.zero_le _, rfl, HRW.out, hv, rfl, Rd.nil _ _, fun j v hj => HRS.out j v (by omega), hbel⟩
      case round =>
        obtain ⟨k, vq, a, l, cap, hk, rfl, hrows, hvi, hl, hrd, hrest, hbq⟩ := hrel
        have hsz := hb1.size
        have hsq := hbq.size
        by_cases hkr : k < nr
        · have hkl : k < rows.length := by rw [← HER.out]; exact hkr
          have hkf : k < frm.length := by rw [← HEF.out]; omega
          obtain ⟨br, orr, ak, ck, rfl, hbr, hcr, hrk⟩ := ((hr.below hb1 (Nat.le_refl _)).below hbq (Nat.le_refl _)).at k hkl
          obtain ⟨bb, ob, ab, cb, hgb, hbb, hcb, hrb⟩ := (hbases.below hbq (Nat.le_refl _)).at k (by simpa [Cof.bases] using hkf)
          cases hgb
          rw [bases_at _ _ hkf] at hcb hrb
          rw [Nat.zero_add] at hcb
          have hbl := basis_le frm k
          rw [← HEF.out] at hbl
          obtain ⟨m, hm⟩ : ∃ m, m = (rows.getD k []).length := ⟨_, rfl⟩
          have hm2 : m ≤ 500 := by rw [hm]; exact hlen k
          obtain ⟨p, hp⟩ : ∃ p, p = (Cof.basis frm k).length := ⟨_, rfl⟩
          rw [← hm] at hcr
          rw [← hp] at hcb hbl
          have hl2 : l ≤ 500 := by rw [hl]; exact carryTo_le frm rows x 500 hlen k
          have hca : wr.cell? ⟨w1.heap.size, i, none⟩ = some (.slice a l cap) := by rw [hrows.own.cellAt i (by omega)]; exact hvi
          have hfa := hrows.own.frozenAt i
          have hg1 := (hrows.own.lt _ rfl).2
          have HM := hid hm
          have HP := hid hp
          have HL := hid hl
          have HRW2 := hid hrows
          have HVI := hid hvi
          have HRE := hid hrest
          clear hm hp hl hrows hvi hrest hlen
          go_wp2_with fail
          go_region_with (first
            | (go_at_call 69; refine (at_n _ _ _ (Cof.basis frm k) x _ HP.out (by exact hrb.below ((Below.refl _ _).drew) (Nat.le_refl _)) (by omega)).mono ?_; rintro e w3 ⟨rfl, hb3⟩; have z3 : wr.heap.size ≤ w3.heap.size := hb3.size; have c3 : w3.cell? ⟨w1.heap.size, i, none⟩ = some (.slice a l cap) := (hb3.cell (by exact hg1)).trans hca; have f3 : w3.frozen? ⟨w1.heap.size, i, none⟩ = false := (hb3.frozen (by exact hg1)).trans hfa)
            | (go_at_call 68; refine (scaleB _ _ _ (rows.getD k []) _ _ HM.out (by exact (hrk.below ((Below.refl _ _).drew) (Nat.le_refl _)).below hb3 (Nat.le_refl _)) (by omega)).mono ?_; rintro e w4 ⟨g4, rfl, hrd4, hb4⟩; have z4 : w3.heap.size ≤ w4.heap.size := hb4.size; have c4 : w4.cell? ⟨w1.heap.size, i, none⟩ = some (.slice a l cap) := (hb4.cell (by show w1.heap.size < w3.heap.size; omega)).trans c3; have f4 : w4.frozen? ⟨w1.heap.size, i, none⟩ = false := (hb4.frozen (by show w1.heap.size < w3.heap.size; omega)).trans f3)
            | (go_at_call 67; refine (sumB _ _ _ _ _ _ (Cof.carryTo frm rows x k) (Cof.scaleRow (rows.getD k []) (Cof.polyAt (Cof.basis frm k) x)) _ HL.out (by rw [Cof.length_scaleRow]; exact HM.out) (by exact ((hrd.below ((Below.refl _ _).drew) (Nat.le_refl _)).below hb3 (Nat.le_refl _)).below hb4 (Nat.le_refl _)) (by exact hrd4) (by omega) (by omega)).mono ?_; rintro e w5 ⟨g5, l5, rfl, hl5, hrd5, hb5⟩; have HL5 := hid hl5; clear hl5; have z5 : w4.heap.size ≤ w5.heap.size := hb5.size; have c5 : w5.cell? ⟨w1.heap.size, i, none⟩ = some (.slice a l cap) := (hb5.cell (by show w1.heap.size < w4.heap.size; omega)).trans c4; have f5 : w5.frozen? ⟨w1.heap.size, i, none⟩ = false := (hb5.frozen (by show w1.heap.size < w4.heap.size; omega)).trans f4))
          all_goals
            have hbd : Below wr.heap.size wr w5 := (((Below.refl _ _).drew).trans (hb3.mono (Nat.le_refl _))).trans ((hb4.mono z3).trans (hb5.mono (by omega)))
            have hr5 := HRW2.out.kept hbd (Nat.le_refl _)
            have HPUT := hid (hr5.put (some ⟨g5, 0, none⟩) l5 l5)
            have HRD := hid (hrd5.setCell_other (block_of_owns hr5.own).1 hr5.shape (g := w1.heap.size) (k := i) (.slice (some ⟨g5, 0, none⟩) l5 l5))
            have hvl : i < vq.length := by have := (block_of_owns hr5.own).2.2; omega
            clear hr5 hrd5
            go_wp2
            go_roundw
            case rel =>
              refine ⟨k + 1, vq.set i (.slice (some ⟨g5, 0, none⟩) l5 l5), some ⟨g5, 0, none⟩, l5, l5, by omega, by go_num, HPUT.out, by simp [hvl], HL5.out, HRD.out, ?_, (hbq.trans (hbd.mono hsq)).setCell (Nat.le_refl _) _⟩
              intro j v hj hv
              rw [List.getElem?_set, if_neg (by omega)] at hv
              exact HRE.out j v hj hv
            case measure => simp [intOf]; omega
        · have hkn : k = nr := by omega
          have HKN := hid hkn
          have HL := hid hl
          have HONE := hid (hrows.one hvi (by rw [hl, hkn, HER.out, HX.out]) (by rw [hkn, HER.out, HX.out] at hrd; exact hrd))
          have HRE := hid hrest
          clear hkn hl hrows hvi hrest
          go_wp2
          go_roundw
          case rel => exact ⟨i + 1, vq, by omega, by go_num, HONE.out, fun j v hj => HRE.out j v (by omega), hbq⟩
          case measure => simp [intOf]; omega
    · have hkn : i = nt := by omega
      subst hkn
      have HF := hid hrows.full
      clear hrows
      go_wp2
      go_ret
      refine ⟨_, rfl, ?_, hb1.trans (hbel.mono hb1.size)⟩
      have e : Cof.carry frm rows to = (List.range i).map (fun i => Cof.carryTo frm rows (to.getD i 0) rows.length) := by
        rw [HET.out]
        apply List.ext_getElem
        · simp [Cof.carry]
        · intro j h1 h2
          simp [Cof.carry] at h1 ⊢
          simp [h1]
      rw [e]
      exact HF.out

end Go.Proofs.YtcegdgmbponapaaDoor
