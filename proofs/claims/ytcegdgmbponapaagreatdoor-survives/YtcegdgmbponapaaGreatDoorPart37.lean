/-
  What is held is got back, from the stores that are up and whose shards are good.
  The threshold of cofferkeep; pieces that were cut, as Join reads them.
-/
import Derived.Test.YtcegdgmbponapaaGreatDoorPart36
import Derived.Test.YtcegdgmbponapaaGreatDoorWJoin
import Derived.Test.YtcegdgmbponapaaGreatDoorPart07
namespace Go.Proofs.YtcegdgmbponapaaGreatDoor
open Go.RowKit
attribute [local go_sem ↓] Go.wp_at_zero Go.wp_at_succ

/-- Which shards are good: those that are not bad, at stores that are up. -/
def Judged (key mode t l n epoch size : Nat) (nm : ByteArray) (len : Nat) (down bad : Nat → Bool) (X P : Nat → List UInt8) : Prop :=
  ∀ i, i < n → down i = false → (bad i = false → Cof.Good key (Cof.head mode t l n i epoch size nm.data.toList) len (X i) (P i)) ∧ (bad i = true → ¬ ∃ Q, Cof.Good key (Cof.head mode t l n i epoch size nm.data.toList) len (X i) Q)

theorem Held.piece_good {w : World} {base V key n B bc : Nat} {sp : Nat → Nat} {down : Nat → Bool} {mode t l size epoch : Nat} {nm : ByteArray} {X : Nat → List UInt8} {vs : Nat → Value} {xs : Nat → RecV} (h : Held w base V key n B bc sp down mode t l size epoch nm (Cof.ngroups mode t l size) X vs xs)
    (hp : IsPlan mode t l n) (he : epoch ≤ 100) (hz : size ≤ 60) (hn1 : 1 ≤ nm.size) (hnm : nm.size ≤ 12) (hk : key < 18446744073709551616) (hl : Cof.ngroups mode t l size ≤ 60) (i : Nat) (hi : i < n) (P : List UInt8) (hg : Cof.Good key (Cof.head mode t l n i epoch size nm.data.toList) (Cof.ngroups mode t l size) (X i) P) (w' : World) (hb : Below w.heap.size w w') (hT : Tab w') :
    Calls Tryz.prog 132 #[.pointer (some ⟨V, 0, none⟩), .int .i64 i, .agg #[.string nm, .int .i64 mode, .int .i64 t, .int .i64 l, .int .i64 size, .int .i64 epoch]] w' fun e w'' =>
      ∃ pv, e = .returned (.tuple #[pv, .nilIface]) ∧ w''.ownsRow w'.heap.size 5 1 pv (Cof.ngroups mode t l size) (bs P) ∧ Below w'.heap.size w' w'' := by
  have h' := h.below hb
  obtain ⟨done, ahead, hvt⟩ := h'.vt
  obtain ⟨a, c, _, hst⟩ := (h'.st i hi).st
  have hnm' := (h'.e i hi).1
  obtain ⟨sa', sc', hsv, hrd⟩ := owns_rd_size (h'.own i hi)
  have hrd' : Rd w' (xs i).sa (bs (X i)) := by cases hsv; exact hrd
  exact vpiece_good V key n B bc sp i (down i) a c [xs i] (xs i) mode t l size epoch nm w' (hvt.rdy hp.n1 hp.n8) hi hst (has_one hnm') (by rw [pos_one hnm']; rfl) _ rfl _ P hp he hz hn1 hnm hk hl hrd' (by rw [h.sn i hi, h.bytes i hi]) (owns_caps (h'.own i hi)) hg hT

theorem Held.piece_bad {w : World} {base V key n B bc : Nat} {sp : Nat → Nat} {down : Nat → Bool} {mode t l size epoch : Nat} {nm : ByteArray} {X : Nat → List UInt8} {vs : Nat → Value} {xs : Nat → RecV} (h : Held w base V key n B bc sp down mode t l size epoch nm (Cof.ngroups mode t l size) X vs xs)
    (hp : IsPlan mode t l n) (he : epoch ≤ 100) (hz : size ≤ 60) (hn1 : 1 ≤ nm.size) (hnm : nm.size ≤ 12) (hk : key < 18446744073709551616) (hl : Cof.ngroups mode t l size ≤ 60) (i : Nat) (hi : i < n) (hg : ¬ ∃ P, Cof.Good key (Cof.head mode t l n i epoch size nm.data.toList) (Cof.ngroups mode t l size) (X i) P) (w' : World) (hb : Below w.heap.size w w') (hT : Tab w') :
    Calls Tryz.prog 132 #[.pointer (some ⟨V, 0, none⟩), .int .i64 i, .agg #[.string nm, .int .i64 mode, .int .i64 t, .int .i64 l, .int .i64 size, .int .i64 epoch]] w' fun e w'' =>
      ∃ ev, e = .returned (.tuple #[.slice none 0 0, ev]) ∧ Chain w'' 12 2 ev ∧ Below w'.heap.size w' w'' := by
  have h' := h.below hb
  obtain ⟨done, ahead, hvt⟩ := h'.vt
  obtain ⟨a, c, _, hst⟩ := (h'.st i hi).st
  have hnm' := (h'.e i hi).1
  obtain ⟨sa', sc', hsv, hrd⟩ := owns_rd_size (h'.own i hi)
  have hrd' : Rd w' (xs i).sa (bs (X i)) := by cases hsv; exact hrd
  exact vpiece_bad V key n B bc sp i (down i) a c [xs i] (xs i) mode t l size epoch nm w' (hvt.rdy hp.n1 hp.n8) hi hst (has_one hnm') (by rw [pos_one hnm']; rfl) _ rfl _ hp he hz hn1 hnm hk hl hrd' (by rw [h.sn i hi, h.bytes i hi]) (owns_caps (h'.own i hi)) (h.bytes i hi) hg hT

set_option maxRecDepth 100000 in
set_option maxHeartbeats 2000000 in
theorem reached_held (base V key n B bc : Nat) (sp : Nat → Nat) (down bad : Nat → Bool) (mode t l size epoch : Nat) (nm : ByteArray) (X P : Nat → List UInt8) (vs : Nat → Value) (xs : Nat → RecV) (w : World) (h : Held w base V key n B bc sp down mode t l size epoch nm (Cof.ngroups mode t l size) X vs xs)
    (hp : IsPlan mode t l n) (he : epoch ≤ 100) (hz : size ≤ 60) (hn1 : 1 ≤ nm.size) (hnm : nm.size ≤ 12) (hk : key < 18446744073709551616) (hl : Cof.ngroups mode t l size ≤ 60) (hJ : Judged key mode t l n epoch size nm (Cof.ngroups mode t l size) down bad X P) (hT : Tab w) :
    Calls Tryz.prog 87 #[.pointer (some ⟨V, 0, none⟩), .agg #[.string nm, .int .i64 mode, .int .i64 t, .int .i64 l, .int .i64 size, .int .i64 epoch]] w fun e w' =>
      ∃ v, e = .returned v ∧ w'.ownsRow w.heap.size 63 2 v (upTo (fun i => down i || bad i) n).length (pcs ((List.range n).map P) (upTo (fun i => down i || bad i) n)) ∧ Below w.heap.size w w' := by
  obtain ⟨i0, hi, hz0, hz1, hz2⟩ := info_parts Tryz.infoPiece
  have hba := (Below.refl w.heap.size w).alloc (Nat.le_refl _) (.cells #[.string nm, .int .i64 mode, .int .i64 t, .int .i64 l, .int .i64 size, .int .i64 epoch] 55)
  obtain ⟨done, ahead, hvt⟩ := h.vt
  have hn8 := hp.n8
  have HR := hid ((hvt.rdy hp.n1 hn8).keeps hba (Nat.le_refl _))
  have HPC := hid (fun i hi hg w' hb hT => h.piece_good hp he hz hn1 hnm hk hl i hi (P i) hg w' hb hT)
  have HPB := hid (fun i hi hg w' hb hT => h.piece_bad hp he hz hn1 hnm hk hl i hi hg w' hb hT)
  have HJ := hid hJ
  have HDN := hid (show ∀ i, i < n → w.cell? ⟨sp i, 0, none⟩ = some (.bool (down i)) from fun i hi => by rw [cells_at (h.st i hi).hp]; rfl)
  have HLT := hid (show ∀ i, i < n → sp i < w.heap.size from fun i hi => cells_lt (h.st i hi).hp)
  have HT := hid hT
  obtain ⟨ng, hng⟩ : ∃ ng, ng = Cof.ngroups mode t l size := ⟨_, rfl⟩
  rw [← hng] at HPC HPB HJ hl
  obtain ⟨rows, hrows⟩ : ∃ rows, rows = (List.range n).map P := ⟨_, rfl⟩
  rw [← hrows]
  have HRG := hid (show ∀ i, i < n → rows.getD i [] = P i from fun i hi => by rw [hrows]; simp [hi])
  clear h hp hz hn1 hnm hk hJ hT hng hvt hrows
  have hc1' := HR.out.va.c1
  have hlV := HR.out.va.lt
  go_enter Tryz.func87, Tryz.ntmps87
  go_wp2_with fail
  obtain ⟨w1, hw1⟩ : ∃ w1, w1 = w.alloc (.cells #[.string nm, .int .i64 mode, .int .i64 t, .int .i64 l, .int .i64 size, .int .i64 epoch] 55) := ⟨_, rfl⟩
  have HOB := hid (show w1.heap[w.heap.size]? = some (.cells #[.string nm, .int .i64 mode, .int .i64 t, .int .i64 l, .int .i64 size, .int .i64 epoch] 55) by rw [hw1]; exact alloc_at _ _)
  have hz1' : w.heap.size < w1.heap.size := cells_lt HOB.out
  rw [← hw1] at hba HR hc1' hlV ⊢
  clear hw1
  go_loopw [5, 15] (fun ov u wr => ∃ (k : Nat), k ≤ n ∧ u = .int .i64 k ∧ wr.ownsRow w1.heap.size 63 2 ov (upTo (fun i => down i || bad i) k).length (pcs rows (upTo (fun i => down i || bad i) k)) ∧ Below w1.heap.size w1 wr) (fun _ u _ => n - (intOf u).toNat)
  case atStart => exact ⟨0, Nat.zero_le _, rfl, ⟨rfl, .inl ⟨rfl, rfl⟩⟩, Below.refl _ _⟩
  case round =>
    obtain ⟨k, hkn, rfl, hrow, hbr⟩ := hrel
    by_cases hlt : k < n
    · have hb0r := hba.trans (hbr.mono (by omega))
      have k1 := (HR.out.keeps hbr (Nat.le_refl _)).st k hlt
      have dk : wr.cell? ⟨sp k, 0, none⟩ = some (.bool (down k)) := (hb0r.cell (HLT.out k hlt)).trans (HDN.out k hlt)
      have hlt' : (k : Int) < (n : Int) := by omega
      have HROW := hid hrow
      clear hrow
      cases hdk : down k with
      | true =>
        rw [hdk] at dk
        have HX := hid (upTo_no (fun i => down i || bad i) k (by simp [hdk]))
        have HCU := hid (checkUp_down (sp k) wr dk)
        clear hdk
        go_wp2_with (go_at_call 140; refine HCU.out.mono ?_; rintro e w3 ⟨rfl, rfl⟩)
        go_roundw
        case rel => exact ⟨k + 1, by omega, by go_num, by rw [HX.out]; exact HROW.out, hbr⟩
        case measure => simp [intOf]; omega
      | false =>
        rw [hdk] at dk
        have HCU := hid (checkUp_up (sp k) wr dk)
        have HOBR := hid (show wr.heap[w.heap.size]? = _ from (hbr.block _ hz1').trans HOB.out)
        have o0 : wr.cell? ⟨w.heap.size, 0, none⟩ = some (.string nm) := by rw [cells_at HOBR.out]; rfl
        have o1 : wr.cell? ⟨w.heap.size, 1, none⟩ = some (.int .i64 mode) := by rw [cells_at HOBR.out]; rfl
        have o2 : wr.cell? ⟨w.heap.size, 2, none⟩ = some (.int .i64 t) := by rw [cells_at HOBR.out]; rfl
        have o3 : wr.cell? ⟨w.heap.size, 3, none⟩ = some (.int .i64 l) := by rw [cells_at HOBR.out]; rfl
        have o4 : wr.cell? ⟨w.heap.size, 4, none⟩ = some (.int .i64 size) := by rw [cells_at HOBR.out]; rfl
        have o5 : wr.cell? ⟨w.heap.size, 5, none⟩ = some (.int .i64 epoch) := by rw [cells_at HOBR.out]; rfl
        cases hbk : bad k with
        | true =>
        have HX := hid (upTo_no (fun i => down i || bad i) k (by simp [hbk]))
        have HPI := hid (HPB.out k hlt ((HJ.out k hlt hdk).2 hbk) wr hb0r (HT.out.keeps hb0r (Nat.le_refl _)))
        clear hdk hbk
        go_wp2_with (go_at_call 140; refine HCU.out.mono ?_; rintro e w3 ⟨rfl, rfl⟩)
        refine HPI.out.mono ?_
        rintro e w4 ⟨ev, rfl, hch, hb4⟩
        obtain ⟨te, ve, rfl⟩ := hch.shape
        have hbr4 := hbr.trans (hb4.mono hbr.size)
        have HRW4 := hid (owns_below_size HROW.out hb4 (Nat.le_refl _))
        clear hch
        go_wp2_with fail
        go_roundw
        case rel => exact ⟨k + 1, by omega, by go_num, by rw [HX.out]; exact HRW4.out, hbr4⟩
        case measure => simp [intOf]; omega
        | false =>
        have HX := hid (upTo_yes (fun i => down i || bad i) k (by simp [hdk, hbk]))
        have hgk := (HJ.out k hlt hdk).1 hbk
        have HPLk := hid (show (P k).length = ng from hgk.1)
        have HPI := hid (HPC.out k hlt hgk wr hb0r (HT.out.keeps hb0r (Nat.le_refl _)))
        clear hdk hbk hgk
        go_wp2_with (go_at_call 140; refine HCU.out.mono ?_; rintro e w3 ⟨rfl, rfl⟩)
        refine HPI.out.mono ?_
        rintro e w4 ⟨pv, rfl, hpo, hb4⟩
        obtain ⟨pa, pc, rfl, hprd⟩ := owns_rd_size hpo
        have hconv := conv_string w4 pa pc ng (P k) HPLk.out.symm hprd
        have HST := hid (show str (rows.getD k []) = .string ⟨(P k).toArray⟩ by rw [HRG.out k hlt]; rfl)
        generalize (⟨(P k).toArray⟩ : ByteArray) = bk at *
        have hbr4 := hbr.trans (hb4.mono hbr.size)
        have hba4 := (Below.refl w4.heap.size w4).alloc (Nat.le_refl _) (.cells #[.int .i64 k, .string bk] 63)
        have HRW4 := hid (owns_below_size (owns_below_size HROW.out hb4 (Nat.le_refl _)) hba4 (Nat.le_refl _))
        have hul := upTo_le (fun i => down i || bad i) k
        clear hpo hprd
        go_wp2_with (first | (at_builtin; refine wpList_append_own _ rfl (.tmp 32) (.tmp 37) 61 rfl w1.heap.size 63 i0 _ 2 24 Tryz.underlying61 hi hz0 hz1 hz2 rfl (by decide) _ (upTo (fun i => down i || bad i) k).length (pcs rows (upTo (fun i => down i || bad i) k)) rfl HRW4.out ⟨w4.heap.size, 0, none⟩ 1 1 [.int .i64 k, .string bk] rfl rfl (fun j u hj => by rw [add_at, World.cell?_alloc_at _ _ _ _ rfl, Nat.zero_add]; simpa using hj) (fun u hu => by simp at hu; rcases hu with rfl | rfl <;> rfl) (by unfold maxLen; omega) (by omega) (by have := hbr4.size; simp; omega) ?_; intro v2 w5 hown2 hgrow2 _; (have HO2 := hid hown2); (have HB2 := hid ((hbr4.trans (hba4.mono hbr4.size)).grown hgrow2 (by have := hbr4.size; simp; omega) (fun q hq => (HRW4.out.lt q hq).1))); clear hown2 hgrow2) | fail)
        go_roundw
        case rel => exact ⟨k + 1, by omega, by go_num, by rw [HX.out, pcs_one, HST.out, List.length_append]; exact HO2.out, HB2.out⟩
        case measure => simp [intOf]; omega
    · have hkk : k = n := by omega
      subst hkk
      have HROW := hid hrow
      clear hrow
      go_wp2
      go_ret
      exact ⟨_, rfl, World.ownsRow.mono HROW.out (by omega), hba.trans (hbr.mono (by omega))⟩

set_option maxRecDepth 100000 in
set_option maxHeartbeats 2000000 in
theorem vget_held (base V key n B bc : Nat) (sp : Nat → Nat) (down bad : Nat → Bool) (mode t l size epoch : Nat) (nm : ByteArray) (X P : Nat → List UInt8) (vs : Nat → Value) (xs : Nat → RecV) (w : World) (h : Held w base V key n B bc sp down mode t l size epoch nm (Cof.ngroups mode t l size) X vs xs)
    (hp : IsPlan mode t l n) (he : epoch ≤ 100) (hz : size ≤ 60) (hn1 : 1 ≤ nm.size) (hnm : nm.size ≤ 12) (hk : key < 18446744073709551616) (hl : Cof.ngroups mode t l size ≤ 60) (hjd : Judged key mode t l n epoch size nm (Cof.ngroups mode t l size) down bad X P) (hT : Tab w)
    (N : Nat) (hN : N = Cof.gsize mode t l + Cof.tsize mode t) (hen : N ≤ (upTo (fun i => down i || bad i) n).length) (J : List UInt8) (hJ : Cof.join mode t l size ((upTo (fun i => down i || bad i) n).take N) (((upTo (fun i => down i || bad i) n).take N).map P) = J) :
    Calls Tryz.prog 50 #[.pointer (some ⟨V, 0, none⟩), .string nm] w fun e w' =>
      ∃ av cv, e = .returned (.tuple #[.slice av size cv, .nilIface]) ∧ Rd w' av (bs J) ∧ Below w.heap.size w w' := by
  have hn1' := hp.n1
  have hn8 := hp.n8
  obtain ⟨done, ahead, hvt⟩ := h.vt
  have hR := hvt.rdy hn1' hn8
  obtain ⟨a0, c0', _, hst0⟩ := (h.st 0 (by omega)).st
  have hok0 := h.e 0 (by omega)
  have HOBJ := hid (object_yes V key n B bc sp (down 0) a0 c0' [xs 0] (xs 0) nm w hR hst0 (has_one hok0.1) (by rw [pos_one hok0.1]; rfl))
  rw [hok0.1, hok0.2.1, hok0.2.2.1, hok0.2.2.2.1, hok0.2.2.2.2.1, hok0.2.2.2.2.2] at HOBJ
  have HRE := hid (fun w' hb => reached_held base V key n B bc sp down bad mode t l size epoch nm X P vs xs w' (h.below hb) hp he hz hn1 hnm hk hl hjd (hT.keeps hb (Nat.le_refl _)))
  have hul := upTo_le (fun i => down i || bad i) n
  have hlt : ∀ s ∈ upTo (fun i => down i || bad i) n, s < n := fun s hs => by unfold upTo at hs; exact List.mem_range.1 (List.mem_filter.1 hs).1
  have hP : ∀ s ∈ upTo (fun i => down i || bad i) n, (P s).length = Cof.ngroups mode t l size := fun s hs => by
    have h2 := (List.mem_filter.1 hs).2
    simp at h2
    exact ((hjd s (hlt s hs) h2.1).1 h2.2).1
  have hnd : (upTo (fun i => down i || bad i) n).Nodup := by unfold upTo; exact List.nodup_range.filter _
  have hmap : (upTo (fun i => down i || bad i) n).map (fun s => (⟨(((List.range n).map P).getD s []).toArray⟩ : ByteArray)) = (upTo (fun i => down i || bad i) n).map (fun s => ⟨(P s).toArray⟩) := List.map_congr_left fun s hs => by simp [hlt s hs]
  have HJO := hid (fun (w' : World) (aP : Option Addr) (c : Nat) (hc : (upTo (fun i => down i || bad i) n).length ≤ c) (hrd : PRd w' aP (upTo (fun i => down i || bad i) n) ((upTo (fun i => down i || bad i) n).map fun s => (⟨(((List.range n).map P).getD s []).toArray⟩ : ByteArray))) =>
    cutJoin_ok mode t l n size (upTo (fun i => down i || bad i) n).length c N aP (upTo (fun i => down i || bad i) n) _ w' ⟨hp, hz, rfl, hrd, by omega, hc, hlt, hnd, fun i hi => by rw [hmap]; simp [hi, ByteArray.size]; exact hP _ (List.getElem_mem hi)⟩ (by simp) hN hen)
  have hJ' : Cof.join mode t l size ((upTo (fun i => down i || bad i) n).take N) ((((upTo (fun i => down i || bad i) n).map fun s => (⟨(((List.range n).map P).getD s []).toArray⟩ : ByteArray)).take N).map fun p => p.data.toList) = J := by
    rw [hmap, ← List.map_take, List.map_map]
    exact hJ
  rw [hJ'] at HJO
  have HRR := hid hR
  clear h hp hP hjd hT hst0 hok0 hvt hR hmap hJ hJ' hlt hnd
  go_enter Tryz.func50, Tryz.ntmps50
  go_wp2_with fail
  refine HOBJ.out.mono ?_
  rintro e w1 ⟨rfl, hb1⟩
  have hba := hb1.alloc hb1.size (.cells #[.string nm, .int .i64 mode, .int .i64 t, .int .i64 l, .int .i64 size, .int .i64 epoch] 55)
  obtain ⟨w2, hw2⟩ : ∃ w2, w2 = w1.alloc (.cells #[.string nm, .int .i64 mode, .int .i64 t, .int .i64 l, .int .i64 size, .int .i64 epoch] 55) := ⟨_, rfl⟩
  have HOB := hid (show w2.heap[w1.heap.size]? = some (.cells #[.string nm, .int .i64 mode, .int .i64 t, .int .i64 l, .int .i64 size, .int .i64 epoch] 55) by rw [hw2]; exact alloc_at _ _)
  have hl1 : w1.heap.size < w2.heap.size := cells_lt HOB.out
  rw [← hw2] at hba
  have HR2 := hid (HRR.out.keeps hba (Nat.le_refl _))
  have c1 := HR2.out.va.c1
  have lV := HR2.out.va.lt
  have o0 : w2.cell? ⟨w1.heap.size, 0, none⟩ = some (.string nm) := by rw [cells_at HOB.out]; rfl
  have o1 : w2.cell? ⟨w1.heap.size, 1, none⟩ = some (.int .i64 mode) := by rw [cells_at HOB.out]; rfl
  have o2 : w2.cell? ⟨w1.heap.size, 2, none⟩ = some (.int .i64 t) := by rw [cells_at HOB.out]; rfl
  have o3 : w2.cell? ⟨w1.heap.size, 3, none⟩ = some (.int .i64 l) := by rw [cells_at HOB.out]; rfl
  have o4 : w2.cell? ⟨w1.heap.size, 4, none⟩ = some (.int .i64 size) := by rw [cells_at HOB.out]; rfl
  have o5 : w2.cell? ⟨w1.heap.size, 5, none⟩ = some (.int .i64 epoch) := by rw [cells_at HOB.out]; rfl
  have HS := hid (show ∀ w', Below w2.heap.size w2 w' → w'.cell? ⟨V, 1, none⟩ = some (.slice (some ⟨B, 0, none⟩) n bc) ∧ w'.cell? ⟨w1.heap.size, 0, none⟩ = some (.string nm) ∧ w'.cell? ⟨w1.heap.size, 1, none⟩ = some (.int .i64 mode) ∧ w'.cell? ⟨w1.heap.size, 2, none⟩ = some (.int .i64 t) ∧ w'.cell? ⟨w1.heap.size, 3, none⟩ = some (.int .i64 l) ∧ w'.cell? ⟨w1.heap.size, 4, none⟩ = some (.int .i64 size) ∧ w'.cell? ⟨w1.heap.size, 5, none⟩ = some (.int .i64 epoch) from fun w' hb => ⟨(hb.cell lV).trans c1, (hb.cell hl1).trans o0, (hb.cell hl1).trans o1, (hb.cell hl1).trans o2, (hb.cell hl1).trans o3, (hb.cell hl1).trans o4, (hb.cell hl1).trans o5⟩)
  have HW2 := hid hw2
  go_wp2_with fail
  rw [← HW2.out]
  clear hw2 HW2
  generalize (upTo (fun i => down i || bad i) n).length = m at *
  go_region_held3 (fun w' => w'.cell? ⟨V, 1, none⟩ = some (.slice (some ⟨B, 0, none⟩) n bc) ∧ w'.cell? ⟨w1.heap.size, 0, none⟩ = some (.string nm) ∧ w'.cell? ⟨w1.heap.size, 1, none⟩ = some (.int .i64 mode) ∧ w'.cell? ⟨w1.heap.size, 2, none⟩ = some (.int .i64 t) ∧ w'.cell? ⟨w1.heap.size, 3, none⟩ = some (.int .i64 l) ∧ w'.cell? ⟨w1.heap.size, 4, none⟩ = some (.int .i64 size) ∧ w'.cell? ⟨w1.heap.size, 5, none⟩ = some (.int .i64 epoch)) (first | exact HS.out _ (Below.refl _ _) | exact HS.out _ (Below.refl _ _).drew | exact D4.out | exact D3.out | go_keep)
    (first
      | (go_at_call 87; refine (HRE.out w2.drew hba.drew).mono ?_; rintro e w3 ⟨pv, rfl, hrow, hb3⟩; (have hb23 : Below w2.heap.size w2 w3 := (Below.refl w2.heap.size w2).drew.trans hb3); (have D3 := hid (HS.out w3 hb23)); (obtain ⟨pa, pc, rfl, hpc, hprd⟩ := prd_of_pcs hrow); (have HPRD := hid hprd); (have HPC := hid hpc); clear hrow hprd hpc)
      | (go_at_call 55; refine (HJO.out w3 pa pc HPC.out HPRD.out).mono ?_; rintro e w4 ⟨av, cv, rfl, hrd4, hb4⟩; (have hb24 : Below w2.heap.size w2 w4 := hb23.trans (hb4.mono hb23.size)); (have D4 := hid (HS.out w4 hb24)); (have HRD4 := hid hrd4); clear hrd4))
  have hb04 := hba.trans (hb24.mono hba.size)
  go_wp2_with (go_at_call 78; refine (at_nil _ _).mono ?_; rintro e w7 ⟨rfl, rfl⟩)
  go_ret2
  exact ⟨av, cv, rfl, HRD4.out, hb04⟩

set_option maxRecDepth 100000 in
set_option maxHeartbeats 2000000 in
theorem vget_few (base V key n B bc : Nat) (sp : Nat → Nat) (down bad : Nat → Bool) (mode t l size epoch : Nat) (nm : ByteArray) (X P : Nat → List UInt8) (vs : Nat → Value) (xs : Nat → RecV) (w : World) (h : Held w base V key n B bc sp down mode t l size epoch nm (Cof.ngroups mode t l size) X vs xs)
    (hp : IsPlan mode t l n) (he : epoch ≤ 100) (hz : size ≤ 60) (hn1 : 1 ≤ nm.size) (hnm : nm.size ≤ 12) (hk : key < 18446744073709551616) (hl : Cof.ngroups mode t l size ≤ 60) (hjd : Judged key mode t l n epoch size nm (Cof.ngroups mode t l size) down bad X P) (hT : Tab w)
    (hfew : (upTo (fun i => down i || bad i) n).length < Cof.gsize mode t l + Cof.tsize mode t) :
    Calls Tryz.prog 50 #[.pointer (some ⟨V, 0, none⟩), .string nm] w fun e w' =>
      ∃ ev, e = .returned (.tuple #[.slice none 0 0, ev]) ∧ Chain w' 10 3 ev ∧ Below w.heap.size w w' := by
  have hn1' := hp.n1
  have hn8 := hp.n8
  obtain ⟨done, ahead, hvt⟩ := h.vt
  have hR := hvt.rdy hn1' hn8
  obtain ⟨a0, c0', _, hst0⟩ := (h.st 0 (by omega)).st
  have hok0 := h.e 0 (by omega)
  have HOBJ := hid (object_yes V key n B bc sp (down 0) a0 c0' [xs 0] (xs 0) nm w hR hst0 (has_one hok0.1) (by rw [pos_one hok0.1]; rfl))
  rw [hok0.1, hok0.2.1, hok0.2.2.1, hok0.2.2.2.1, hok0.2.2.2.2.1, hok0.2.2.2.2.2] at HOBJ
  have HRE := hid (fun w' hb => reached_held base V key n B bc sp down bad mode t l size epoch nm X P vs xs w' (h.below hb) hp he hz hn1 hnm hk hl hjd (hT.keeps hb (Nat.le_refl _)))
  have hul := upTo_le (fun i => down i || bad i) n
  have hlt : ∀ s ∈ upTo (fun i => down i || bad i) n, s < n := fun s hs => by unfold upTo at hs; exact List.mem_range.1 (List.mem_filter.1 hs).1
  have hP : ∀ s ∈ upTo (fun i => down i || bad i) n, (P s).length = Cof.ngroups mode t l size := fun s hs => by
    have h2 := (List.mem_filter.1 hs).2
    simp at h2
    exact ((hjd s (hlt s hs) h2.1).1 h2.2).1
  have hnd : (upTo (fun i => down i || bad i) n).Nodup := by unfold upTo; exact List.nodup_range.filter _
  have hmap : (upTo (fun i => down i || bad i) n).map (fun s => (⟨(((List.range n).map P).getD s []).toArray⟩ : ByteArray)) = (upTo (fun i => down i || bad i) n).map (fun s => ⟨(P s).toArray⟩) := List.map_congr_left fun s hs => by simp [hlt s hs]
  have HJO := hid (fun (w' : World) (aP : Option Addr) (c : Nat) (hc : (upTo (fun i => down i || bad i) n).length ≤ c) (hrd : PRd w' aP (upTo (fun i => down i || bad i) n) ((upTo (fun i => down i || bad i) n).map fun s => (⟨(((List.range n).map P).getD s []).toArray⟩ : ByteArray))) =>
    cutJoin_few mode t l n size (upTo (fun i => down i || bad i) n).length c aP (upTo (fun i => down i || bad i) n) _ w' ⟨hp, hz, rfl, hrd, by omega, hc, hlt, hnd, fun i hi => by rw [hmap]; simp [hi, ByteArray.size]; exact hP _ (List.getElem_mem hi)⟩ hfew)
  have HRR := hid hR
  clear h hp hP hjd hT hst0 hok0 hvt hR hmap hlt hnd hfew
  go_enter Tryz.func50, Tryz.ntmps50
  go_wp2_with fail
  refine HOBJ.out.mono ?_
  rintro e w1 ⟨rfl, hb1⟩
  have hba := hb1.alloc hb1.size (.cells #[.string nm, .int .i64 mode, .int .i64 t, .int .i64 l, .int .i64 size, .int .i64 epoch] 55)
  obtain ⟨w2, hw2⟩ : ∃ w2, w2 = w1.alloc (.cells #[.string nm, .int .i64 mode, .int .i64 t, .int .i64 l, .int .i64 size, .int .i64 epoch] 55) := ⟨_, rfl⟩
  have HOB := hid (show w2.heap[w1.heap.size]? = some (.cells #[.string nm, .int .i64 mode, .int .i64 t, .int .i64 l, .int .i64 size, .int .i64 epoch] 55) by rw [hw2]; exact alloc_at _ _)
  have hl1 : w1.heap.size < w2.heap.size := cells_lt HOB.out
  rw [← hw2] at hba
  have HR2 := hid (HRR.out.keeps hba (Nat.le_refl _))
  have c1 := HR2.out.va.c1
  have lV := HR2.out.va.lt
  have o0 : w2.cell? ⟨w1.heap.size, 0, none⟩ = some (.string nm) := by rw [cells_at HOB.out]; rfl
  have o1 : w2.cell? ⟨w1.heap.size, 1, none⟩ = some (.int .i64 mode) := by rw [cells_at HOB.out]; rfl
  have o2 : w2.cell? ⟨w1.heap.size, 2, none⟩ = some (.int .i64 t) := by rw [cells_at HOB.out]; rfl
  have o3 : w2.cell? ⟨w1.heap.size, 3, none⟩ = some (.int .i64 l) := by rw [cells_at HOB.out]; rfl
  have o4 : w2.cell? ⟨w1.heap.size, 4, none⟩ = some (.int .i64 size) := by rw [cells_at HOB.out]; rfl
  have o5 : w2.cell? ⟨w1.heap.size, 5, none⟩ = some (.int .i64 epoch) := by rw [cells_at HOB.out]; rfl
  have HS := hid (show ∀ w', Below w2.heap.size w2 w' → w'.cell? ⟨V, 1, none⟩ = some (.slice (some ⟨B, 0, none⟩) n bc) ∧ w'.cell? ⟨w1.heap.size, 0, none⟩ = some (.string nm) ∧ w'.cell? ⟨w1.heap.size, 1, none⟩ = some (.int .i64 mode) ∧ w'.cell? ⟨w1.heap.size, 2, none⟩ = some (.int .i64 t) ∧ w'.cell? ⟨w1.heap.size, 3, none⟩ = some (.int .i64 l) ∧ w'.cell? ⟨w1.heap.size, 4, none⟩ = some (.int .i64 size) ∧ w'.cell? ⟨w1.heap.size, 5, none⟩ = some (.int .i64 epoch) from fun w' hb => ⟨(hb.cell lV).trans c1, (hb.cell hl1).trans o0, (hb.cell hl1).trans o1, (hb.cell hl1).trans o2, (hb.cell hl1).trans o3, (hb.cell hl1).trans o4, (hb.cell hl1).trans o5⟩)
  have HW2 := hid hw2
  go_wp2_with fail
  rw [← HW2.out]
  clear hw2 HW2
  generalize (upTo (fun i => down i || bad i) n).length = m at *
  go_region_held3 (fun w' => w'.cell? ⟨V, 1, none⟩ = some (.slice (some ⟨B, 0, none⟩) n bc) ∧ w'.cell? ⟨w1.heap.size, 0, none⟩ = some (.string nm) ∧ w'.cell? ⟨w1.heap.size, 1, none⟩ = some (.int .i64 mode) ∧ w'.cell? ⟨w1.heap.size, 2, none⟩ = some (.int .i64 t) ∧ w'.cell? ⟨w1.heap.size, 3, none⟩ = some (.int .i64 l) ∧ w'.cell? ⟨w1.heap.size, 4, none⟩ = some (.int .i64 size) ∧ w'.cell? ⟨w1.heap.size, 5, none⟩ = some (.int .i64 epoch)) (first | exact HS.out _ (Below.refl _ _) | exact HS.out _ (Below.refl _ _).drew | exact D4.out | exact D3.out | go_keep)
    (first
      | (go_at_call 87; refine (HRE.out w2.drew hba.drew).mono ?_; rintro e w3 ⟨pv, rfl, hrow, hb3⟩; (have hb23 : Below w2.heap.size w2 w3 := (Below.refl w2.heap.size w2).drew.trans hb3); (have D3 := hid (HS.out w3 hb23)); (obtain ⟨pa, pc, rfl, hpc, hprd⟩ := prd_of_pcs hrow); (have HPRD := hid hprd); (have HPC := hid hpc); clear hrow hprd hpc)
      | (go_at_call 55; refine (HJO.out w3 pa pc HPC.out HPRD.out).mono ?_; rintro e w4 ⟨ev, rfl, hch4, hb4⟩; (have hb24 : Below w2.heap.size w2 w4 := hb23.trans (hb4.mono hb23.size)); (have D4 := hid (HS.out w4 hb24)); (have HCH4 := hid hch4); clear hch4))
  have hb04 := hba.trans (hb24.mono hba.size)
  go_wp2_with (go_at_call 78; refine (at_chain _ _ 10 2 _ HCH4.out).mono ?_; rintro e w7 ⟨e7, rfl, hc7, hb7⟩; (have HC7 := hid hc7); clear hc7)
  go_ret2
  exact ⟨e7, rfl, HC7.out, hb04.trans (hb7.mono hb04.size)⟩


set_option maxRecDepth 100000 in
theorem cget_no (C V d : Nat) (k : Int) (nm : ByteArray) (w : World) (h : Cf w C V) (hd : d ≤ 10) (hE : ErrType w)
    (hv : Calls Tryz.prog 50 #[.pointer (some ⟨V, 0, none⟩), .string nm] w fun e w' => ∃ ev, e = .returned (.tuple #[.slice none 0 0, ev]) ∧ Chain w' k d ev ∧ Below w.heap.size w w') :
    Calls Tryz.prog 24 #[.pointer (some ⟨C, 0, none⟩), .string nm] w fun e w' => e = .returned (.tuple #[.string ByteArray.empty, .int .i64 k]) ∧ Below w.heap.size w w' := by
  have c0 : w.cell? ⟨C, 0, none⟩ = some (.pointer (some ⟨V, 0, none⟩)) := by rw [cells_at h]; rfl
  have HV := hid hv
  have HE := hid hE
  clear h hv hE
  go_enter Tryz.func24, Tryz.ntmps24
  go_wp2_with fail
  refine HV.out.mono ?_
  rintro e w1 ⟨ev, rfl, hch, hb1⟩
  have HCH := hid hch
  clear hch
  go_wp2_with (go_at_call 47; refine (told_no _ _ k d _ HCH.out hd (HE.out.keeps hb1 (Nat.le_refl _))).mono ?_; rintro e w2 ⟨rfl, hb2⟩)
  go_ret2
  exact ⟨rfl, hb1.trans (hb2.mono hb1.size)⟩
end Go.Proofs.YtcegdgmbponapaaGreatDoor

namespace Go.Proofs.YtcegdgmbponapaaGreatDoor
open Go.RowKit
attribute [local go_sem ↓] Go.wp_at_zero Go.wp_at_succ

set_option maxRecDepth 100000 in
theorem keepThr_any (mode t l n : Nat) (w : World) (h : IsPlan mode t l n) :
    Calls Tryz.prog 18 #[.agg #[.int .i64 mode, .int .i64 t, .int .i64 l]] w fun e w' => e = .returned (.int .i64 ((Cof.gsize mode t l + Cof.tsize mode t : Nat) : Int)) ∧ Below w.heap.size w w' := by
  obtain ⟨h1, h2, h3, h4, h5, h6⟩ := h
  rcases h6 with ⟨rfl, h6⟩ | ⟨rfl, rfl⟩
  · go_enter Tryz.func18, Tryz.ntmps18
    go_wp2
    go_ret
    exact ⟨ret_int (by simp [Cof.gsize, Cof.tsize]; omega), (Below.refl _ _).alloc (Nat.le_refl _) _⟩
  · go_enter Tryz.func18, Tryz.ntmps18
    go_wp2
    go_ret
    exact ⟨ret_int (by simp [Cof.gsize, Cof.tsize]), (Below.refl _ _).alloc (Nat.le_refl _) _⟩

/-- The pieces that were cut, as Join reads them. -/
theorem pieces_right {w : World} {base k : Nat} {x : Value} {rows : List (List UInt8)} {ss : List Nat} (h : w.ownsRow base 63 2 x k (pcs rows ss)) (hk : ss.length = k) :
    ∃ a c, x = .slice a k c ∧ k ≤ c ∧ PRd w a ss (ss.map fun s => ⟨(rows.getD s []).toArray⟩) := by
  rcases Nat.eq_zero_or_pos k with h0 | h0
  · have hs : ss = [] := List.length_eq_zero_iff.1 (by omega)
    subst hs
    rcases h.2 with ⟨h1, h2⟩ | ⟨g, cap, cur, h1, _, _, h2, _⟩
    · exact ⟨none, 0, by rw [h1, h0], by omega, fun i hi => by simp at hi⟩
    · exact ⟨_, _, h1, h2, fun i hi => by simp at hi⟩
  · obtain ⟨g, c, rfl, h1, h2⟩ := h.form h0
    refine ⟨_, _, rfl, owns_cap h, fun i hi => ⟨g, 0, rfl, h2, ?_, ?_⟩⟩
    · rw [Nat.zero_add, h.cellAt (i * 2) (by omega), (pcs_at rows ss i hi).1]; simp [hi]
    · rw [Nat.zero_add, h.cellAt (i * 2 + 1) (by omega), (pcs_at rows ss i hi).2]; simp [hi, str]

theorem PRd.take {w : World} {a : Option Addr} {ss : List Nat} {ps : List ByteArray} (h : PRd w a ss ps) (n : Nat) : PRd w a (ss.take n) (ps.take n) := by
  intro i hi
  have hin : i < n := by simp at hi; omega
  obtain ⟨b, o, h1, h2, h3, h4⟩ := h i (by simp at hi; omega)
  exact ⟨b, o, h1, h2, by rw [h3]; simp [hin], by rw [h4]; simp [hin]⟩
end Go.Proofs.YtcegdgmbponapaaGreatDoor
