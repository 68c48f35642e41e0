/-
  The walk of cutting.dealt.
  The walk of cutting.carried.
-/
import Derived.Test.YtcegdgmbponapaaGreatDoorPart02
import Derived.Test.YtcegdgmbponapaaGreatDoorPart03
import Derived.Deep.RegionLaw
import Derived.Deep.DrawnRows
import Derived.Deep.RegionWith
namespace Go.Proofs.YtcegdgmbponapaaGreatDoor
open Go.RowKit
attribute [local go_sem ↓] Go.wp_at_zero Go.wp_at_succ

theorem dealRow_succ (text : List UInt8) (width j k : Nat) : Cof.dealRow text width j (k + 1) = if k % width = j then Cof.dealRow text width j k ++ [text.getD k 0] else Cof.dealRow text width j k := by
  unfold Cof.dealRow
  rw [List.range_succ, List.filter_append, List.map_append]
  split
  · rename_i h; simp [h]
  · rename_i h; simp [h]

theorem dealRow_le (text : List UInt8) (width j k : Nat) : (Cof.dealRow text width j k).length ≤ k := by
  unfold Cof.dealRow
  rw [List.length_map]
  exact Nat.le_trans (List.length_filter_le _ _) (by simp)

set_option maxRecDepth 100000 in
set_option maxHeartbeats 1000000 in
theorem dealt_any (s : ByteArray) (width groups : Nat) (w : World) (hw : width ≤ 8) (hg : groups ≤ 60) :
    Calls Tryz.prog 96 #[.string s, .int .i64 width, .int .i64 groups] w fun e w' =>
      ∃ g, e = .returned (.slice (some ⟨g, 0, none⟩) width width) ∧ RdRows w' (some ⟨g, 0, none⟩) (Cof.deal s.data.toList width groups) ∧ Below w.heap.size w w' := by
  obtain ⟨i0, hi, hz0, hz1, hz2⟩ := info_parts Tryz.infoRow
  obtain ⟨i5, hi5, hy0, hy1, hy2⟩ := info_parts Tryz.info5
  have hm : width * groups ≤ 8 * 60 := Nat.mul_le_mul hw hg
  have hmi : (width : Int) * (groups : Int) = ((width * groups : Nat) : Int) := by simp
  have hmb : (width : Int) * (groups : Int) ≤ 480 := by rw [hmi]; omega
  have hma : (0 : Int) ≤ (width : Int) * (groups : Int) := by rw [hmi]; omega
  have HM := hid hmi
  clear hmi
  go_enter Tryz.func96, Tryz.ntmps96
  go_wp2_with (first | (at_make; refine wpList_make_full _ rfl (.tmp 10) (.tmp 10) 109 rfl w.heap.size 50 i0 (.slice none 0 0) 1 Tryz.underlying109 hi hz0 hz1 .i64 .i64 _ _ width rfl rfl rfl rfl (by rw [hz2]; omega) (by unfold maxLen; omega) (Nat.le_refl _) ?_; intro w1 hown1 hgrow1; have hb1 := grown_below hgrow1; have HO1 := hid (made_rows (fun _ => []) hown1).own; clear hown1 hgrow1; obtain ⟨cap1, w2, hconv, hrd2, hb2, hs2⟩ := conv_bytes w1 s; have HS2 := hid hs2; clear hs2) | fail)
  rw [HM.out]
  generalize hN : width * groups = N at *
  have HN := hid hN
  clear hN hmb hma
  refine (filledB _ _ s.data.toList N _ (by exact hrd2) (by omega)).mono ?_
  rintro e w3 ⟨f, rfl, hown3, hb3⟩
  have hg0 : w.heap.size < w1.heap.size := (HO1.out.lt _ rfl).2
  have hf0 : w2.heap.size ≤ f ∧ f < w3.heap.size := hown3.lt f rfl
  have hz12 : w1.heap.size < w2.heap.size := by rw [HS2.out]; omega
  have hb23 : Below w1.heap.size w1 w3 := hb2.trans (hb3.mono (by omega))
  have HF := hid (owns_rd hown3)
  have HD := hid (Deal.start (owns_below HO1.out hb23 (Nat.le_refl _)) (show w.heap.size < w3.heap.size by have := hb23.size; omega) (Nat.le_refl _))
  have hb : Below w.heap.size w w3 := hb1.trans (hb23.mono (by omega))
  clear hown3 hconv hrd2 hb1 hb2 hb3 hb23
  go_wp2
  go_loopw [19] (fun i wr => ∃ (k : Nat) (vs : List Value), k ≤ N ∧ i = .int .i64 k ∧ Deal wr w.heap.size w.heap.size width w3.heap.size (fun j => Cof.dealRow s.data.toList width j k) vs ∧ wr.heap[f]? = w3.heap[f]? ∧ Below w.heap.size w wr)
    (fun i _ => N - (intOf i).toNat)
  case atStart => exact ⟨0, _, Nat.zero_le _, rfl, HD.out, rfl, hb⟩
  case round =>
    obtain ⟨k, vs, hk, rfl, hdeal, hkept, hbel⟩ := hrel
    have HK := hid hkept
    clear hkept
    by_cases hlt : k < N
    · have hw0 : 0 < width := by
        rcases Nat.eq_zero_or_pos width with h | h
        · have := HN.out; rw [h] at this; omega
        · exact h
      obtain ⟨r, hr⟩ : ∃ r, r = k % width := ⟨_, rfl⟩
      have hrw : r < width := by rw [hr]; exact Nat.mod_lt _ hw0
      have hri : (k : Int) % (width : Int) = (r : Int) := by rw [hr]; simp
      have hrt : (k : Int).tmod (width : Int) = (r : Int) := by rw [Int.tmod_eq_emod_of_nonneg (by omega)]; exact hri
      have hwr : IntKind.i64.wrap (r : Int) = r := by rw [IntKind.wrap_i64]; omega
      have hw1 : ((width : Int) == 0) = false := by rw [beq_eq_false_iff_ne]; omega
      have hw2 : width ≠ 0 := by omega
      have hr0 : (0 : Int) ≤ (r : Int) := by omega
      have hr1 : (r : Int) < (width : Int) := by omega
      have HR := hid hr
      clear hr
      obtain ⟨v, hv, hcell, hfr, hown⟩ := hdeal.cell hrw
      obtain ⟨x, hx⟩ : ∃ x, x = s.data.toList.getD k 0 := ⟨_, rfl⟩
      have hsrc : wr.cell? ⟨f, k, none⟩ = some (.int .u8 x.toNat) := by
        rw [World.cell?_of_block (a := ⟨f, k, none⟩) HK.out]
        obtain ⟨b, o, e1, _, e3⟩ := HF.out k (.int .u8 x.toNat) (by rw [bs_get _ _ (by rw [Cof.length_fillRow]; exact hlt), fill_at _ _ _ hlt, hx])
        cases e1
        rw [Nat.zero_add] at e3
        exact e3
      have HX := hid hx
      have HDL := hid hdeal
      have HV := hid hv
      have hle := dealRow_le s.data.toList width r k
      have hB2 : w3.heap.size ≤ wr.heap.size := hdeal.le
      have HOWN := hid hown
      clear hx hdeal hv hown
      have hfar : ∀ c, (wr.alloc (.cells c 5)).cell? ⟨w.heap.size, r, none⟩ = some v ∧ (wr.alloc (.cells c 5)).frozen? ⟨w.heap.size, r, none⟩ = false := fun c => by
        have hb' := (Below.refl wr.heap.size wr).alloc (Nat.le_refl _) (.cells c 5)
        have hg1 : w.heap.size < wr.heap.size := by omega
        exact ⟨(hb'.cell (by exact hg1)).trans hcell, (hb'.frozen (by exact hg1)).trans hfr⟩
      have HFAR := hid hfar
      have hfar1 : ∀ c, (wr.alloc (.cells c 5)).cell? ⟨w.heap.size, r, none⟩ = some v := fun c => (hfar c).1
      have hvb : v.ownBlock ≠ some w.heap.size := by
        intro hc
        have := (HOWN.out.lt _ hc).1
        omega
      clear hfar
      go_wp2_with fail
      go_region_law ((refine step_append_lies _ (by rfl) _ _ _ (by rfl) w3.heap.size 5 i5 (.int .u8 0) 1 1 Tryz.underlying50 hi5 hy0 hy1 hy2 rfl (by omega) v _ _ (by rfl) ((HOWN.out.alloc _).drew) ⟨wr.heap.size, 0, none⟩ 1 1 [.int .u8 x.toNat] (by rfl) (by rfl) (World.news_of_block (cs := #[.int .u8 x.toNat]) (t := 5) (fr := (0, 0)) (heap_alloc_new wr _)) (by simp [Value.oneCell']) (by omega) (by unfold maxLen; omega) (by omega) (by simp; omega) (wr.heap.size + 1) (by simp) ?_; intro g cap w4 hown4 hgrow4 hat4 hlt4; have c1 : w4.cell? ⟨w.heap.size, r, none⟩ = some v := (hgrow4.cell_far _ (by simp; omega) (Ne.symm hvb)).trans (HFAR.out _).1; have f1 : w4.frozen? ⟨w.heap.size, r, none⟩ = false := (hgrow4.frozen_far _ (by simp; omega) (Ne.symm hvb)).trans (HFAR.out _).2))
      all_goals
        have hbW : Below wr.heap.size wr (wr.alloc (.cells #[.int .u8 x.toNat] 5)).drew := ((Below.refl wr.heap.size wr).alloc (Nat.le_refl _) _).drew
        have HST := hid (HDL.out.step (rows' := fun j => Cof.dealRow s.data.toList width j (k + 1)) HV.out hbW hown4 hgrow4 (by simpa using hat4) (by show Cof.dealRow _ _ _ _ = _; rw [dealRow_succ, if_pos HR.out.symm, HX.out]) (fun j hj => by show Cof.dealRow _ _ _ _ = _; rw [dealRow_succ, if_neg (by rw [← HR.out]; omega)]))
        have HKP := hid ((HDL.out.others (u := .slice (some ⟨g, 0, none⟩) ((Cof.dealRow s.data.toList width r k).length + 1) cap) HV.out hbW hgrow4 f hf0.2 (by omega)).trans HK.out)
        have hbf : Below w.heap.size w w4 := ((hbel.trans (hbW.mono hbel.size)).grown hgrow4 (by have := hbel.size; simp; omega) (fun k hk => Nat.le_trans (by omega) (HOWN.out.lt k hk).1))
        clear hown4 hgrow4 hat4 hlt4
        go_wp2
        go_roundw
        case rel => exact ⟨k + 1, _, by omega, by go_num, HST.out, HKP.out, hbf.setCell (Nat.le_refl _) _⟩
        case measure => simp [intOf]; omega
    · have hkn : k = N := by omega
      subst hkn
      have HF2 := hid hdeal.full
      clear hdeal
      go_wp2
      go_ret
      exact ⟨_, rfl, by rw [← HN.out] at HF2; exact HF2.out, hbel⟩

end Go.Proofs.YtcegdgmbponapaaGreatDoor

namespace Go.Proofs.YtcegdgmbponapaaGreatDoor
open Go.RowKit
attribute [local go_sem ↓] Go.wp_at_zero Go.wp_at_succ

theorem carryTo_le (frm : List UInt8) (rows : List (List UInt8)) (x : UInt8) (R : Nat) (h : ∀ k, (rows.getD k []).length ≤ R) (k : Nat) : (Cof.carryTo frm rows x k).length ≤ R := by
  induction k with
  | zero => simp [Cof.carryTo]
  | succ k ih => rw [Cof.carryTo, Cof.length_sumRow, Cof.length_scaleRow]; exact Nat.max_le.2 ⟨ih, h k⟩

theorem basis_le (xs : List UInt8) (k : Nat) : (Cof.basis xs k).length ≤ xs.length + 1 := by
  rw [Cof.basis, Cof.length_scaleRow]; exact (basisTo_bounds xs k xs.length).2

theorem bases_at (xs : List UInt8) (k : Nat) (h : k < xs.length) : (Cof.bases xs).getD k [] = Cof.basis xs k := by simp [Cof.bases, h]

theorem owns_base {w : World} {base base' n size : Nat} {e : TypeId} {v : Value} {L : List Value} (h : w.ownsRow base e size v n L) (hb : base' ≤ base) : w.ownsRow base' e size v n L := by
  obtain ⟨h1, h2⟩ := h
  refine ⟨h1, ?_⟩
  rcases h2 with h2 | ⟨g, cap, cur, h3, h4, h5⟩
  · exact .inl h2
  · exact .inr ⟨g, cap, cur, h3, by omega, h5⟩

set_option maxRecDepth 100000 in
set_option maxHeartbeats 1000000 in
theorem carried_any (af ar at' : Option Addr) (nf cf nr cr nt ct : Nat) (frm to : List UInt8) (rows : List (List UInt8)) (w : World) (ef : nf = frm.length) (er : nr = rows.length) (et : nt = to.length)
    (hf : Rd w af (bs frm)) (hr : RdRows w ar rows) (ht : Rd w at' (bs to)) (hn : nf ≤ 100) (hrf : nr ≤ nf) (hnt : nt ≤ 100) (hlen : ∀ k, (rows.getD k []).length ≤ 500) :
    Calls Tryz.prog 97 #[.slice af nf cf, .slice ar nr cr, .slice at' nt ct] w fun e w' =>
      ∃ g, e = .returned (.slice (some ⟨g, 0, none⟩) nt nt) ∧ RdRows w' (some ⟨g, 0, none⟩) (Cof.carry frm rows to) ∧ Below w.heap.size w w' ∧ OwnR w' w.heap.size g nt 50 := by
  obtain ⟨i0, hi, hz0, hz1, hz2⟩ := info_parts Tryz.infoRow
  have HEF := hid ef
  have HER := hid er
  have HET := hid et
  clear ef er et
  go_enter Tryz.func97, Tryz.ntmps97
  go_wp2_with (first | (go_at_call 147; refine (bases_any _ _ _ frm _ HEF.out hf (by omega)).mono ?_; rintro e w1 ⟨gb, rfl, hbases, hb1⟩) | (at_make; refine wpList_make_full _ rfl (.tmp 16) (.tmp 16) 109 rfl w1.heap.size 50 i0 (.slice none 0 0) 1 Tryz.underlying109 hi hz0 hz1 .i64 .i64 _ _ nt rfl rfl rfl rfl (by rw [hz2]; omega) (by unfold maxLen; omega) (Nat.le_refl _) ?_; intro w2 hown2 hgrow2; have hb2 := grown_below hgrow2; have HO2 := hid (made_rows (fun i => Cof.carryTo frm rows (to.getD i 0) rows.length) hown2); clear hown2 hgrow2))
  go_loopw [20] (fun i wr => ∃ (k : Nat) (vs : List Value), k ≤ nt ∧ i = .int .i64 k ∧ Rows wr w1.heap.size w1.heap.size nt k 50 (fun i => Cof.carryTo frm rows (to.getD i 0) rows.length) vs ∧ (∀ (j : Nat) (v : Value), k ≤ j → vs[j]? = some v → v = .slice none 0 0) ∧ Below w1.heap.size w1 wr)
    (fun i _ => nt - (intOf i).toNat)
  case atStart =>
    refine ⟨0, _, Nat.zero_le _, rfl, HO2.out, ?_, hb2⟩
    intro j v _ hv
    rw [List.getElem?_replicate] at hv
    split at hv
    · simp at hv; exact hv.symm
    · cases hv
  case round =>
    obtain ⟨i, vs, hi', rfl, hrows, hrest, hbel⟩ := hrel
    by_cases hlt : i < nt
    · have hltl : i < to.length := by rw [← HET.out]; exact hlt
      obtain ⟨bt, ot, rfl, hbts, hcellt⟩ := ht.pos (by rw [bs_length]; omega)
      obtain ⟨x, hx⟩ : ∃ x, x = to.getD i 0 := ⟨_, rfl⟩
      have hct : wr.cell? ⟨bt, ot + i, none⟩ = some (.int .u8 x.toNat) := by rw [hbel.cell (by show bt < w1.heap.size; have := hb1.size; omega), hb1.cell (by exact hbts)]; exact hcellt i _ (by rw [bs_get _ _ hltl, hx])
      have HX := hid hx
      have HRW := hid hrows
      have HRS := hid hrest
      clear hcellt hx hrows hrest
      go_wp2
      go_loopw [27] (fun c wr => ∃ (k : Nat) (vs : List Value) (a : Option Addr) (l cap : Nat), k ≤ nr ∧ c = .int .i64 k ∧ Rows wr w1.heap.size w1.heap.size nt i 50 (fun i => Cof.carryTo frm rows (to.getD i 0) rows.length) vs ∧ vs[i]? = some (.slice a l cap) ∧ l = (Cof.carryTo frm rows x k).length ∧ Rd wr a (bs (Cof.carryTo frm rows x k)) ∧ (∀ (j : Nat) (v : Value), i < j → vs[j]? = some v → v = .slice none 0 0) ∧ Below w1.heap.size w1 wr)
        (fun c _ => nr - (intOf c).toNat)
      case atStart =>
        obtain ⟨v, hv⟩ : ∃ v, vs[i]? = some v := ⟨_, List.getElem?_eq_getElem (by have := (block_of_owns HRW.out.own).2.2; omega)⟩
        have := HRS.out i v (Nat.le_refl _) hv
        subst this
        exact ⟨0, vs, none, 0, 0, Nat.zero_le _, rfl, HRW.out, hv, rfl, Rd.nil _ _, fun j v hj => HRS.out j v (by omega), hbel⟩
      case round =>
        obtain ⟨k, vq, a, l, cap, hk, rfl, hrows, hvi, hl, hrd, hrest, hbq⟩ := hrel
        have hsz := hb1.size
        have hsq := hbq.size
        by_cases hkr : k < nr
        · have hkl : k < rows.length := by rw [← HER.out]; exact hkr
          have hkf : k < frm.length := by rw [← HEF.out]; omega
          obtain ⟨br, orr, ak, ck, rfl, hbr, hcr, hrk⟩ := ((hr.below hb1 (Nat.le_refl _)).below hbq (Nat.le_refl _)).at k hkl
          obtain ⟨bb, ob, ab, cb, hgb, hbb, hcb, hrb⟩ := (hbases.below hbq (Nat.le_refl _)).at k (by simpa [Cof.bases] using hkf)
          cases hgb
          rw [bases_at _ _ hkf] at hcb hrb
          rw [Nat.zero_add] at hcb
          have hbl := basis_le frm k
          rw [← HEF.out] at hbl
          obtain ⟨m, hm⟩ : ∃ m, m = (rows.getD k []).length := ⟨_, rfl⟩
          have hm2 : m ≤ 500 := by rw [hm]; exact hlen k
          obtain ⟨p, hp⟩ : ∃ p, p = (Cof.basis frm k).length := ⟨_, rfl⟩
          rw [← hm] at hcr
          rw [← hp] at hcb hbl
          have hl2 : l ≤ 500 := by rw [hl]; exact carryTo_le frm rows x 500 hlen k
          have hca : wr.cell? ⟨w1.heap.size, i, none⟩ = some (.slice a l cap) := by rw [hrows.own.cellAt i (by omega)]; exact hvi
          have hfa := hrows.own.frozenAt i
          have hg1 := (hrows.own.lt _ rfl).2
          have HM := hid hm
          have HP := hid hp
          have HL := hid hl
          have HRW2 := hid hrows
          have HVI := hid hvi
          have HRE := hid hrest
          clear hm hp hl hrows hvi hrest hlen
          go_wp2_with fail
          go_region_with (first
            | (go_at_call 149; refine (at_n _ _ _ (Cof.basis frm k) x _ HP.out (by exact hrb.below ((Below.refl _ _).drew) (Nat.le_refl _)) (by omega)).mono ?_; rintro e w3 ⟨rfl, hb3⟩; have z3 : wr.heap.size ≤ w3.heap.size := hb3.size; have c3 : w3.cell? ⟨w1.heap.size, i, none⟩ = some (.slice a l cap) := (hb3.cell (by exact hg1)).trans hca; have f3 : w3.frozen? ⟨w1.heap.size, i, none⟩ = false := (hb3.frozen (by exact hg1)).trans hfa)
            | (go_at_call 148; refine (scaleB _ _ _ (rows.getD k []) _ _ HM.out (by exact (hrk.below ((Below.refl _ _).drew) (Nat.le_refl _)).below hb3 (Nat.le_refl _)) (by omega)).mono ?_; rintro e w4 ⟨g4, rfl, hrd4, hb4⟩; have z4 : w3.heap.size ≤ w4.heap.size := hb4.size; have c4 : w4.cell? ⟨w1.heap.size, i, none⟩ = some (.slice a l cap) := (hb4.cell (by show w1.heap.size < w3.heap.size; omega)).trans c3; have f4 : w4.frozen? ⟨w1.heap.size, i, none⟩ = false := (hb4.frozen (by show w1.heap.size < w3.heap.size; omega)).trans f3)
            | (go_at_call 133; refine (sumB _ _ _ _ _ _ (Cof.carryTo frm rows x k) (Cof.scaleRow (rows.getD k []) (Cof.polyAt (Cof.basis frm k) x)) _ HL.out (by rw [Cof.length_scaleRow]; exact HM.out) (by exact ((hrd.below ((Below.refl _ _).drew) (Nat.le_refl _)).below hb3 (Nat.le_refl _)).below hb4 (Nat.le_refl _)) (by exact hrd4) (by omega) (by omega)).mono ?_; rintro e w5 ⟨g5, l5, rfl, hl5, hrd5, hb5⟩; have HL5 := hid hl5; clear hl5; have z5 : w4.heap.size ≤ w5.heap.size := hb5.size; have c5 : w5.cell? ⟨w1.heap.size, i, none⟩ = some (.slice a l cap) := (hb5.cell (by show w1.heap.size < w4.heap.size; omega)).trans c4; have f5 : w5.frozen? ⟨w1.heap.size, i, none⟩ = false := (hb5.frozen (by show w1.heap.size < w4.heap.size; omega)).trans f4))
          all_goals
            have hbd : Below wr.heap.size wr w5 := (((Below.refl _ _).drew).trans (hb3.mono (Nat.le_refl _))).trans ((hb4.mono z3).trans (hb5.mono (by omega)))
            have hr5 := HRW2.out.kept hbd (Nat.le_refl _)
            have HPUT := hid (hr5.put (some ⟨g5, 0, none⟩) l5 l5)
            have HRD := hid (hrd5.setCell_other (block_of_owns hr5.own).1 hr5.shape (g := w1.heap.size) (k := i) (.slice (some ⟨g5, 0, none⟩) l5 l5))
            have hvl : i < vq.length := by have := (block_of_owns hr5.own).2.2; omega
            clear hr5 hrd5
            go_wp2
            go_roundw
            case rel =>
              refine ⟨k + 1, vq.set i (.slice (some ⟨g5, 0, none⟩) l5 l5), some ⟨g5, 0, none⟩, l5, l5, by omega, by go_num, HPUT.out, by simp [hvl], HL5.out, HRD.out, ?_, (hbq.trans (hbd.mono hsq)).setCell (Nat.le_refl _) _⟩
              intro j v hj hv
              rw [List.getElem?_set, if_neg (by omega)] at hv
              exact HRE.out j v hj hv
            case measure => simp [intOf]; omega
        · have hkn : k = nr := by omega
          have HKN := hid hkn
          have HL := hid hl
          have HONE := hid (hrows.one hvi (by rw [hl, hkn, HER.out, HX.out]) (by rw [hkn, HER.out, HX.out] at hrd; exact hrd))
          have HRE := hid hrest
          clear hkn hl hrows hvi hrest
          go_wp2
          go_roundw
          case rel => exact ⟨i + 1, vq, by omega, by go_num, HONE.out, fun j v hj => HRE.out j v (by omega), hbq⟩
          case measure => simp [intOf]; omega
    · have hkn : i = nt := by omega
      subst hkn
      have HF := hid hrows.full
      have HOW := hid hrows.own
      clear hrows
      go_wp2
      go_ret
      refine ⟨_, rfl, ?_, hb1.trans (hbel.mono hb1.size), _, owns_base HOW.out hb1.size⟩
      have e : Cof.carry frm rows to = (List.range i).map (fun i => Cof.carryTo frm rows (to.getD i 0) rows.length) := by
        rw [HET.out]
        apply List.ext_getElem
        · simp [Cof.carry]
        · intro j h1 h2
          simp [Cof.carry] at h1 ⊢
          simp [h1]
      rw [e]
      exact HF.out

end Go.Proofs.YtcegdgmbponapaaGreatDoor
