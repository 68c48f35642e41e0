/-
  The pieces at the stores that are up.
  A value is got.
  The calls of a coffer that only read.
-/
import Derived.Test.YtcegdgmbponapabGreatDoorPart22
import Derived.Test.YtcegdgmbponapabGreatDoorPart04
import Derived.Test.YtcegdgmbponapabGreatDoorWJoin
namespace Go.Proofs.YtcegdgmbponapabGreatDoor
open Go.RowKit
attribute [local go_sem ↓] Go.wp_at_zero Go.wp_at_succ

def upTo (down : Nat → Bool) (k : Nat) : List Nat := (List.range k).filter fun i => !down i
theorem upTo_yes (down : Nat → Bool) (k : Nat) (h : down k = false) : upTo down (k + 1) = upTo down k ++ [k] := by
  unfold upTo
  rw [List.range_succ, List.filter_append]
  simp [h]
theorem upTo_no (down : Nat → Bool) (k : Nat) (h : down k = true) : upTo down (k + 1) = upTo down k := by
  unfold upTo
  rw [List.range_succ, List.filter_append]
  simp [h]
theorem upTo_le (down : Nat → Bool) (k : Nat) : (upTo down k).length ≤ k := by
  unfold upTo
  exact Nat.le_trans (List.length_filter_le _ _) (by simp)
theorem pcs_one (rows : List (List UInt8)) (ss : List Nat) (s : Nat) : pcs rows (ss ++ [s]) = pcs rows ss ++ [.int .i64 s, str (rows.getD s [])] := by
  unfold pcs
  rw [List.flatMap_append]
  rfl

set_option maxRecDepth 100000 in
set_option maxHeartbeats 2000000 in
theorem reached_up (base V key n B bc : Nat) (sp : Nat → Nat) (down : Nat → Bool) (mode t l size epoch : Nat) (nm : ByteArray) (P : Nat → List UInt8) (vs : Nat → Value) (xs : Nat → RecV) (w : World) (h : One w base V key n B bc sp down mode t l size epoch nm P vs xs)
    (hp : IsPlan mode t l n) (he : epoch ≤ 100) (hz : size ≤ 60) (hn1 : 1 ≤ nm.size) (hnm : nm.size ≤ 12) (hk : key < 18446744073709551616) (hl : Cof.ngroups mode t l size ≤ 60) (hP : ∀ i, i < n → (P i).length = Cof.ngroups mode t l size) (hT : Tab w) :
    Calls Tryz.prog 72 #[.pointer (some ⟨V, 0, none⟩), .agg #[.string nm, .int .i64 mode, .int .i64 t, .int .i64 l, .int .i64 size, .int .i64 epoch]] w fun e w' =>
      ∃ v, e = .returned v ∧ w'.ownsRow w.heap.size 187 2 v (upTo down n).length (pcs ((List.range n).map P) (upTo down n)) ∧ Below w.heap.size w w' := by
  obtain ⟨i0, hi, hz0, hz1, hz2⟩ := info_parts Tryz.infoPiece
  have hba := (Below.refl w.heap.size w).alloc (Nat.le_refl _) (.cells #[.string nm, .int .i64 mode, .int .i64 t, .int .i64 l, .int .i64 size, .int .i64 epoch] 65)
  obtain ⟨done, ahead, hvt⟩ := h.vt
  have hn8 := hp.n8
  have HR := hid ((hvt.rdy hp.n1 hn8).keeps hba (Nat.le_refl _))
  have HPC := hid (fun i hi w' hb hT => h.piece hp he hz hn1 hnm hk hl hP i hi w' hb hT)
  have HDN := hid (show ∀ i, i < n → w.cell? ⟨sp i, 0, none⟩ = some (.bool (down i)) from fun i hi => by rw [cells_at (h.st i hi).hp]; rfl)
  have HLT := hid (show ∀ i, i < n → sp i < w.heap.size from fun i hi => cells_lt (h.st i hi).hp)
  have HT := hid hT
  have HPL := hid hP
  obtain ⟨ng, hng⟩ : ∃ ng, ng = Cof.ngroups mode t l size := ⟨_, rfl⟩
  rw [← hng] at HPC HPL hl
  obtain ⟨rows, hrows⟩ : ∃ rows, rows = (List.range n).map P := ⟨_, rfl⟩
  rw [← hrows]
  have HRG := hid (show ∀ i, i < n → rows.getD i [] = P i from fun i hi => by rw [hrows]; simp [hi])
  clear h hp hz hn1 hnm hk hP hT hng hvt hrows
  have hc1' := HR.out.va.c1
  have hlV := HR.out.va.lt
  go_enter Tryz.func72, Tryz.ntmps72
  go_wp2_with fail
  obtain ⟨w1, hw1⟩ : ∃ w1, w1 = w.alloc (.cells #[.string nm, .int .i64 mode, .int .i64 t, .int .i64 l, .int .i64 size, .int .i64 epoch] 65) := ⟨_, rfl⟩
  have HOB := hid (show w1.heap[w.heap.size]? = some (.cells #[.string nm, .int .i64 mode, .int .i64 t, .int .i64 l, .int .i64 size, .int .i64 epoch] 65) by rw [hw1]; exact alloc_at _ _)
  have hz1' : w.heap.size < w1.heap.size := cells_lt HOB.out
  rw [← hw1] at hba HR hc1' hlV ⊢
  clear hw1
  go_loopw [5, 15] (fun ov u wr => ∃ (k : Nat), k ≤ n ∧ u = .int .i64 k ∧ wr.ownsRow w1.heap.size 187 2 ov (upTo down k).length (pcs rows (upTo down k)) ∧ Below w1.heap.size w1 wr) (fun _ u _ => n - (intOf u).toNat)
  case atStart => exact ⟨0, Nat.zero_le _, rfl, ⟨rfl, .inl ⟨rfl, rfl⟩⟩, Below.refl _ _⟩
  case round =>
    obtain ⟨k, hkn, rfl, hrow, hbr⟩ := hrel
    by_cases hlt : k < n
    · have hb0r := hba.trans (hbr.mono (by omega))
      have k1 := (HR.out.keeps hbr (Nat.le_refl _)).st k hlt
      have dk : wr.cell? ⟨sp k, 0, none⟩ = some (.bool (down k)) := (hb0r.cell (HLT.out k hlt)).trans (HDN.out k hlt)
      have hlt' : (k : Int) < (n : Int) := by omega
      have HROW := hid hrow
      clear hrow
      cases hdk : down k with
      | true =>
        rw [hdk] at dk
        have HX := hid (upTo_no down k hdk)
        have HCU := hid (checkUp_down (sp k) wr dk)
        clear hdk
        go_wp2_with (go_at_call 96; refine HCU.out.mono ?_; rintro e w3 ⟨rfl, rfl⟩)
        go_roundw
        case rel => exact ⟨k + 1, by omega, by go_num, by rw [HX.out]; exact HROW.out, hbr⟩
        case measure => simp [intOf]; omega
      | false =>
        rw [hdk] at dk
        have HX := hid (upTo_yes down k hdk)
        have HCU := hid (checkUp_up (sp k) wr dk)
        have HOBR := hid (show wr.heap[w.heap.size]? = _ from (hbr.block _ hz1').trans HOB.out)
        have o0 : wr.cell? ⟨w.heap.size, 0, none⟩ = some (.string nm) := by rw [cells_at HOBR.out]; rfl
        have o1 : wr.cell? ⟨w.heap.size, 1, none⟩ = some (.int .i64 mode) := by rw [cells_at HOBR.out]; rfl
        have o2 : wr.cell? ⟨w.heap.size, 2, none⟩ = some (.int .i64 t) := by rw [cells_at HOBR.out]; rfl
        have o3 : wr.cell? ⟨w.heap.size, 3, none⟩ = some (.int .i64 l) := by rw [cells_at HOBR.out]; rfl
        have o4 : wr.cell? ⟨w.heap.size, 4, none⟩ = some (.int .i64 size) := by rw [cells_at HOBR.out]; rfl
        have o5 : wr.cell? ⟨w.heap.size, 5, none⟩ = some (.int .i64 epoch) := by rw [cells_at HOBR.out]; rfl
        have HPI := hid (HPC.out k hlt wr hb0r (HT.out.keeps hb0r (Nat.le_refl _)))
        clear hdk
        go_wp2_with (go_at_call 96; refine HCU.out.mono ?_; rintro e w3 ⟨rfl, rfl⟩)
        refine HPI.out.mono ?_
        rintro e w4 ⟨pv, rfl, hpo, hb4⟩
        obtain ⟨pa, pc, rfl, hprd⟩ := owns_rd_size hpo
        have hconv := conv_string w4 pa pc ng (P k) (HPL.out k hlt).symm hprd
        have HST := hid (show str (rows.getD k []) = .string ⟨(P k).toArray⟩ by rw [HRG.out k hlt]; rfl)
        generalize (⟨(P k).toArray⟩ : ByteArray) = bk at *
        have hbr4 := hbr.trans (hb4.mono hbr.size)
        have hba4 := (Below.refl w4.heap.size w4).alloc (Nat.le_refl _) (.cells #[.int .i64 k, .string bk] 187)
        have HRW4 := hid (owns_below_size (owns_below_size HROW.out hb4 (Nat.le_refl _)) hba4 (Nat.le_refl _))
        have hul := upTo_le down k
        clear hpo hprd
        go_wp2_with (first | (at_builtin; refine wpList_append_own _ rfl (.tmp 32) (.tmp 37) 131 rfl w1.heap.size 187 i0 _ 2 24 Tryz.underlying131 hi hz0 hz1 hz2 rfl (by decide) _ (upTo down k).length (pcs rows (upTo down k)) rfl HRW4.out ⟨w4.heap.size, 0, none⟩ 1 1 [.int .i64 k, .string bk] rfl rfl (fun j u hj => by rw [add_at, World.cell?_alloc_at _ _ _ _ rfl, Nat.zero_add]; simpa using hj) (fun u hu => by simp at hu; rcases hu with rfl | rfl <;> rfl) (by unfold maxLen; omega) (by omega) (by have := hbr4.size; simp; omega) ?_; intro v2 w5 hown2 hgrow2 _; (have HO2 := hid hown2); (have HB2 := hid ((hbr4.trans (hba4.mono hbr4.size)).grown hgrow2 (by have := hbr4.size; simp; omega) (fun q hq => (HRW4.out.lt q hq).1))); clear hown2 hgrow2) | fail)
        go_roundw
        case rel => exact ⟨k + 1, by omega, by go_num, by rw [HX.out, pcs_one, HST.out, List.length_append]; exact HO2.out, HB2.out⟩
        case measure => simp [intOf]; omega
    · have hkk : k = n := by omega
      subst hkk
      have HROW := hid hrow
      clear hrow
      go_wp2
      go_ret
      exact ⟨_, rfl, World.ownsRow.mono HROW.out (by omega), hba.trans (hbr.mono (by omega))⟩
end Go.Proofs.YtcegdgmbponapabGreatDoor

namespace Go.Proofs.YtcegdgmbponapabGreatDoor
open Go.RowKit
attribute [local go_sem ↓] Go.wp_at_zero Go.wp_at_succ

theorem prd_of_pcs {w : World} {base m : Nat} {e : TypeId} {v : Value} {rows : List (List UInt8)} {ss : List Nat} (h : w.ownsRow base e 2 v m (pcs rows ss)) : ∃ a c, v = .slice a m c ∧ m ≤ c ∧ PRd w a ss (ss.map fun s => (⟨(rows.getD s []).toArray⟩ : ByteArray)) := by
  obtain ⟨a, c, rfl, hrd⟩ := owns_rd_size h
  refine ⟨a, c, rfl, owns_caps h, fun i hi => ?_⟩
  obtain ⟨h1, h2⟩ := pcs_at rows ss i hi
  obtain ⟨b, o, e1, e2, e3⟩ := hrd _ _ h1
  obtain ⟨b', o', e1', _, e3'⟩ := hrd _ _ h2
  rw [e1] at e1'
  obtain ⟨rfl, rfl⟩ := (by simpa using e1' : b = b' ∧ o = o')
  refine ⟨b, o, e1, e2, ?_, ?_⟩
  · rw [e3]; simp [hi]
  · rw [Nat.add_assoc, e3']; simp [hi, str]

set_option maxRecDepth 100000 in
set_option maxHeartbeats 2000000 in
theorem vget_ok (base V key n B bc : Nat) (sp : Nat → Nat) (down : Nat → Bool) (mode t l size epoch : Nat) (nm : ByteArray) (P : Nat → List UInt8) (vs : Nat → Value) (xs : Nat → RecV) (w : World) (h : One w base V key n B bc sp down mode t l size epoch nm P vs xs)
    (hp : IsPlan mode t l n) (he : epoch ≤ 100) (hz : size ≤ 60) (hn1 : 1 ≤ nm.size) (hnm : nm.size ≤ 12) (hk : key < 18446744073709551616) (hl : Cof.ngroups mode t l size ≤ 60) (hP : ∀ i, i < n → (P i).length = Cof.ngroups mode t l size) (hT : Tab w)
    (N : Nat) (hN : N = Cof.gsize mode t l + Cof.tsize mode t) (hen : N ≤ (upTo down n).length) (J : List UInt8) (hJ : Cof.join mode t l size ((upTo down n).take N) (((upTo down n).take N).map P) = J) :
    Calls Tryz.prog 46 #[.pointer (some ⟨V, 0, none⟩), .string nm] w fun e w' =>
      ∃ av cv, e = .returned (.tuple #[.slice av size cv, .nilIface]) ∧ Rd w' av (bs J) ∧ Below w.heap.size w w' := by
  have hn1' := hp.n1
  have hn8 := hp.n8
  obtain ⟨done, ahead, hvt⟩ := h.vt
  have hR := hvt.rdy hn1' hn8
  obtain ⟨a0, c0', _, hst0⟩ := (h.st 0 (by omega)).st
  have hok0 := h.ok 0 (by omega)
  have HOBJ := hid (object_yes V key n B bc sp (down 0) a0 c0' [xs 0] (xs 0) nm w hR hst0 (has_one hok0.e.1) (by rw [pos_one hok0.e.1]; rfl))
  rw [hok0.e.1, hok0.e.2.1, hok0.e.2.2.1, hok0.e.2.2.2.1, hok0.e.2.2.2.2.1, hok0.e.2.2.2.2.2.1] at HOBJ
  have hkeep : ∀ w', Below w.heap.size w w' → One w' base V key n B bc sp down mode t l size epoch nm P vs xs := by
    intro w' hb
    have hs : Spared (fun _ => False) w w' := Spared.ofBelow hb (Nat.le_refl _)
    exact ⟨⟨done, ahead, hvt.keeps hs (fun h => h) (fun h => h)⟩, fun i hi => (h.st i hi).keeps hs (fun h => h) (fun _ _ h => h), fun i hi => (h.ok i hi).keeps hs (fun _ _ h => h), h.xi, h.vi, h.si, h.bV, h.bB, h.bsp, h.bv⟩
  have HRE := hid (fun w' hb => reached_up base V key n B bc sp down mode t l size epoch nm P vs xs w' (hkeep w' hb) hp he hz hn1 hnm hk hl hP (hT.keeps hb (Nat.le_refl _)))
  have hul := upTo_le down n
  have hlt : ∀ s ∈ upTo down n, s < n := fun s hs => by unfold upTo at hs; exact List.mem_range.1 (List.mem_filter.1 hs).1
  have hnd : (upTo down n).Nodup := by unfold upTo; exact List.nodup_range.filter _
  have hmap : (upTo down n).map (fun s => (⟨(((List.range n).map P).getD s []).toArray⟩ : ByteArray)) = (upTo down n).map (fun s => ⟨(P s).toArray⟩) := List.map_congr_left fun s hs => by simp [hlt s hs]
  have HJO := hid (fun (w' : World) (aP : Option Addr) (c : Nat) (hc : (upTo down n).length ≤ c) (hrd : PRd w' aP (upTo down n) ((upTo down n).map fun s => (⟨(((List.range n).map P).getD s []).toArray⟩ : ByteArray))) =>
    cutJoin_ok mode t l n size (upTo down n).length c N aP (upTo down n) _ w' ⟨hp, hz, rfl, hrd, by omega, hc, hlt, hnd, fun i hi => by rw [hmap]; simp [hi, ByteArray.size]; exact hP _ (hlt _ (List.getElem_mem hi))⟩ (by simp) hN hen)
  have hJ' : Cof.join mode t l size ((upTo down n).take N) ((((upTo down n).map fun s => (⟨(((List.range n).map P).getD s []).toArray⟩ : ByteArray)).take N).map fun p => p.data.toList) = J := by
    rw [hmap, ← List.map_take, List.map_map]
    exact hJ
  rw [hJ'] at HJO
  have HRR := hid hR
  clear h hp hP hT hst0 hok0 hvt hR hkeep hmap hJ hJ' hlt hnd
  go_enter Tryz.func46, Tryz.ntmps46
  go_wp2_with fail
  refine HOBJ.out.mono ?_
  rintro e w1 ⟨rfl, hb1⟩
  have hba := hb1.alloc hb1.size (.cells #[.string nm, .int .i64 mode, .int .i64 t, .int .i64 l, .int .i64 size, .int .i64 epoch] 65)
  obtain ⟨w2, hw2⟩ : ∃ w2, w2 = w1.alloc (.cells #[.string nm, .int .i64 mode, .int .i64 t, .int .i64 l, .int .i64 size, .int .i64 epoch] 65) := ⟨_, rfl⟩
  have HOB := hid (show w2.heap[w1.heap.size]? = some (.cells #[.string nm, .int .i64 mode, .int .i64 t, .int .i64 l, .int .i64 size, .int .i64 epoch] 65) by rw [hw2]; exact alloc_at _ _)
  have hl1 : w1.heap.size < w2.heap.size := cells_lt HOB.out
  rw [← hw2] at hba
  have HR2 := hid (HRR.out.keeps hba (Nat.le_refl _))
  have c1 := HR2.out.va.c1
  have lV := HR2.out.va.lt
  have o0 : w2.cell? ⟨w1.heap.size, 0, none⟩ = some (.string nm) := by rw [cells_at HOB.out]; rfl
  have o1 : w2.cell? ⟨w1.heap.size, 1, none⟩ = some (.int .i64 mode) := by rw [cells_at HOB.out]; rfl
  have o2 : w2.cell? ⟨w1.heap.size, 2, none⟩ = some (.int .i64 t) := by rw [cells_at HOB.out]; rfl
  have o3 : w2.cell? ⟨w1.heap.size, 3, none⟩ = some (.int .i64 l) := by rw [cells_at HOB.out]; rfl
  have o4 : w2.cell? ⟨w1.heap.size, 4, none⟩ = some (.int .i64 size) := by rw [cells_at HOB.out]; rfl
  have o5 : w2.cell? ⟨w1.heap.size, 5, none⟩ = some (.int .i64 epoch) := by rw [cells_at HOB.out]; rfl
  have HS := hid (show ∀ w', Below w2.heap.size w2 w' → w'.cell? ⟨V, 1, none⟩ = some (.slice (some ⟨B, 0, none⟩) n bc) ∧ w'.cell? ⟨w1.heap.size, 0, none⟩ = some (.string nm) ∧ w'.cell? ⟨w1.heap.size, 1, none⟩ = some (.int .i64 mode) ∧ w'.cell? ⟨w1.heap.size, 2, none⟩ = some (.int .i64 t) ∧ w'.cell? ⟨w1.heap.size, 3, none⟩ = some (.int .i64 l) ∧ w'.cell? ⟨w1.heap.size, 4, none⟩ = some (.int .i64 size) ∧ w'.cell? ⟨w1.heap.size, 5, none⟩ = some (.int .i64 epoch) from fun w' hb => ⟨(hb.cell lV).trans c1, (hb.cell hl1).trans o0, (hb.cell hl1).trans o1, (hb.cell hl1).trans o2, (hb.cell hl1).trans o3, (hb.cell hl1).trans o4, (hb.cell hl1).trans o5⟩)
  have HW2 := hid hw2
  go_wp2_with fail
  rw [← HW2.out]
  clear hw2 HW2
  generalize (upTo down n).length = m at *
  go_region_held3 (fun w' => w'.cell? ⟨V, 1, none⟩ = some (.slice (some ⟨B, 0, none⟩) n bc) ∧ w'.cell? ⟨w1.heap.size, 0, none⟩ = some (.string nm) ∧ w'.cell? ⟨w1.heap.size, 1, none⟩ = some (.int .i64 mode) ∧ w'.cell? ⟨w1.heap.size, 2, none⟩ = some (.int .i64 t) ∧ w'.cell? ⟨w1.heap.size, 3, none⟩ = some (.int .i64 l) ∧ w'.cell? ⟨w1.heap.size, 4, none⟩ = some (.int .i64 size) ∧ w'.cell? ⟨w1.heap.size, 5, none⟩ = some (.int .i64 epoch)) (first | exact HS.out _ (Below.refl _ _) | exact HS.out _ (Below.refl _ _).drew | exact D4.out | exact D3.out | go_keep)
    (first
      | (go_at_call 72; refine (HRE.out w2.drew hba.drew).mono ?_; rintro e w3 ⟨pv, rfl, hrow, hb3⟩; (have hb23 : Below w2.heap.size w2 w3 := (Below.refl w2.heap.size w2).drew.trans hb3); (have D3 := hid (HS.out w3 hb23)); (obtain ⟨pa, pc, rfl, hpc, hprd⟩ := prd_of_pcs hrow); (have HPRD := hid hprd); (have HPC := hid hpc); clear hrow hprd hpc)
      | (go_at_call 71; refine (HJO.out w3 pa pc HPC.out HPRD.out).mono ?_; rintro e w4 ⟨av, cv, rfl, hrd4, hb4⟩; (have hb24 : Below w2.heap.size w2 w4 := hb23.trans (hb4.mono hb23.size)); (have D4 := hid (HS.out w4 hb24)); (have HRD4 := hid hrd4); clear hrd4))
  have hb04 := hba.trans (hb24.mono hba.size)
  go_wp2_with (go_at_call 53; refine (at_nil _ _).mono ?_; rintro e w7 ⟨rfl, rfl⟩)
  go_ret2
  exact ⟨av, cv, rfl, HRD4.out, hb04⟩

/-! The calls of a coffer. -/

/-- A coffer, as it lies. -/
def Cf (w : World) (C V : Nat) : Prop := w.heap[C]? = some (.cells #[.pointer (some ⟨V, 0, none⟩)] 59)

theorem Cf.keeps {own : Nat → Prop} {w w' : World} {C V : Nat} (h : Cf w C V) (hs : Spared own w w') (ho : ¬ own C) : Cf w' C V := hs.heap h ho

set_option maxRecDepth 100000 in
theorem number_nil (w : World) : Calls Tryz.prog 36 #[.nilIface] w fun e w' => e = .returned (.int .i64 0) ∧ w' = w := by
  go_enter Tryz.func36, Tryz.ntmps36
  go_wp2
  go_ret
  exact ⟨rfl, rfl⟩

set_option maxRecDepth 100000 in
theorem copen_any (n key : Nat) (w : World) (h1 : 1 ≤ n) (h8 : n ≤ 8) :
    Calls Tryz.prog 6 #[.int .i64 n, .int .u64 key] w fun e w' => ∃ C w1 ps v, e = .returned (.pointer (some ⟨C, 0, none⟩)) ∧ Opening w key n ps v w1 ∧ C = w1.heap.size ∧ w' = w1.alloc (.cells #[.pointer (some ⟨w.heap.size, 0, none⟩)] 59) := by
  have H := hid (vopen_any n key w h1 h8)
  go_enter Tryz.func6, Tryz.ntmps6
  go_wp2_with fail
  refine H.out.mono ?_
  rintro e w1 ⟨ps, v, rfl, hop⟩
  have HOP := hid hop
  clear hop
  go_wp2
  go_ret
  exact ⟨_, w1, ps, v, rfl, HOP.out, rfl, rfl⟩

set_option maxRecDepth 100000 in
set_option maxHeartbeats 1000000 in
theorem cput_nil (C V : Nat) (mode t l : Int) (nm vl tape : ByteArray) (w : World) (own : Nat → Prop) (R : World → Prop) (h : Cf w C V) (hoC : ¬ own C) (hown : ∀ b, own b → b < w.heap.size)
    (hv : ∀ w1, Below w.heap.size w w1 → Calls Tryz.prog 38 #[.pointer (some ⟨V, 0, none⟩), .string nm, .string vl, .agg #[.int .i64 mode, .int .i64 t, .int .i64 l], .string tape] w1 fun e w' => e = .returned .nilIface ∧ R w' ∧ Spared own w1 w') :
    Calls Tryz.prog 16 #[.pointer (some ⟨C, 0, none⟩), .string nm, .string vl, .agg #[.int .i64 mode, .int .i64 t, .int .i64 l], .string tape] w fun e w' => e = .returned (.int .i64 0) ∧ R w' ∧ Spared own w w' := by
  have hba := (Below.refl w.heap.size w).alloc (Nat.le_refl _) (.cells #[.int .i64 mode, .int .i64 t, .int .i64 l] 29)
  have hl := cells_lt h
  obtain ⟨w1, hw1⟩ : ∃ w1, w1 = w.alloc (.cells #[.int .i64 mode, .int .i64 t, .int .i64 l] 29) := ⟨_, rfl⟩
  have HPB := hid (show w1.heap[w.heap.size]? = some (.cells #[.int .i64 mode, .int .i64 t, .int .i64 l] 29) by rw [hw1]; exact alloc_at _ _)
  rw [← hw1] at hba
  have h1 : Cf w1 C V := h.keeps (Spared.ofBelow (own := fun _ => False) hba (Nat.le_refl _)) (fun h => h)
  have c0 : w1.cell? ⟨C, 0, none⟩ = some (.pointer (some ⟨V, 0, none⟩)) := by rw [cells_at h1]; rfl
  have p0 : w1.cell? ⟨w.heap.size, 0, none⟩ = some (.int .i64 mode) := by rw [cells_at HPB.out]; rfl
  have p1 : w1.cell? ⟨w.heap.size, 1, none⟩ = some (.int .i64 t) := by rw [cells_at HPB.out]; rfl
  have p2 : w1.cell? ⟨w.heap.size, 2, none⟩ = some (.int .i64 l) := by rw [cells_at HPB.out]; rfl
  have HV := hid (hv w1.drew hba.drew)
  have HCF := hid h1
  have HOC := hid hoC
  have HOW := hid (show ¬ own w.heap.size from fun h => by have := hown _ h; omega)
  have HW1 := hid hw1
  clear h hv h1 hoC hown
  go_enter Tryz.func16, Tryz.ntmps16
  go_wp2_with fail
  rw [← HW1.out]
  clear hw1 HW1
  go_region_held3 (fun w' => w'.cell? ⟨C, 0, none⟩ = some (.pointer (some ⟨V, 0, none⟩)) ∧ w'.cell? ⟨w.heap.size, 0, none⟩ = some (.int .i64 mode) ∧ w'.cell? ⟨w.heap.size, 1, none⟩ = some (.int .i64 t) ∧ w'.cell? ⟨w.heap.size, 2, none⟩ = some (.int .i64 l)) (first | exact ⟨c0, p0, p1, p2⟩ | exact D2.out | go_keep)
    (first
      | (go_at_call 38; refine HV.out.mono ?_; rintro e w2 ⟨rfl, hr, hs⟩; (have HR := hid hr); (have HS := hid hs); (have D2 := hid (show w2.cell? ⟨C, 0, none⟩ = some (.pointer (some ⟨V, 0, none⟩)) ∧ w2.cell? ⟨w.heap.size, 0, none⟩ = some (.int .i64 mode) ∧ w2.cell? ⟨w.heap.size, 1, none⟩ = some (.int .i64 t) ∧ w2.cell? ⟨w.heap.size, 2, none⟩ = some (.int .i64 l) from ⟨(World.cell?_of_block (hs.block C (cells_lt HCF.out) HOC.out)).trans c0, (World.cell?_of_block (hs.block _ (cells_lt HPB.out) HOW.out)).trans p0, (World.cell?_of_block (hs.block _ (cells_lt HPB.out) HOW.out)).trans p1, (World.cell?_of_block (hs.block _ (cells_lt HPB.out) HOW.out)).trans p2⟩)); clear hr hs)
      | (go_at_call 36; refine (number_nil _).mono ?_; rintro e w3 ⟨rfl, rfl⟩))
  go_wp2
  go_ret
  exact ⟨rfl, HR.out, ((Spared.ofBelow hba (Nat.le_refl _)).drew).trans HS.out⟩

set_option maxRecDepth 100000 in
theorem crefresh_nil (C V : Nat) (nm tape : ByteArray) (w : World) (R : World → Prop) (h : Cf w C V)
    (hv : Calls Tryz.prog 39 #[.pointer (some ⟨V, 0, none⟩), .string nm, .string tape] w fun e w' => e = .returned .nilIface ∧ R w') :
    Calls Tryz.prog 17 #[.pointer (some ⟨C, 0, none⟩), .string nm, .string tape] w fun e w' => e = .returned (.int .i64 0) ∧ R w' := by
  have c0 : w.cell? ⟨C, 0, none⟩ = some (.pointer (some ⟨V, 0, none⟩)) := by rw [cells_at h]; rfl
  have HV := hid hv
  clear h hv
  go_enter Tryz.func17, Tryz.ntmps17
  go_wp2_with fail
  refine HV.out.mono ?_
  rintro e w1 ⟨rfl, hr⟩
  have HR := hid hr
  clear hr
  go_wp2_with (go_at_call 36; refine (number_nil _).mono ?_; rintro e w2 ⟨rfl, rfl⟩)
  go_ret
  exact ⟨rfl, HR.out⟩
end Go.Proofs.YtcegdgmbponapabGreatDoor

namespace Go.Proofs.YtcegdgmbponapabGreatDoor
open Go.RowKit
attribute [local go_sem ↓] Go.wp_at_zero Go.wp_at_succ

set_option maxRecDepth 100000 in
theorem cget_of (C V size : Nat) (nm : ByteArray) (J : List UInt8) (w : World) (h : Cf w C V) (hJ : size = J.length)
    (hv : Calls Tryz.prog 46 #[.pointer (some ⟨V, 0, none⟩), .string nm] w fun e w' => ∃ av cv, e = .returned (.tuple #[.slice av size cv, .nilIface]) ∧ Rd w' av (bs J) ∧ Below w.heap.size w w') :
    Calls Tryz.prog 23 #[.pointer (some ⟨C, 0, none⟩), .string nm] w fun e w' => e = .returned (.tuple #[.string ⟨J.toArray⟩, .int .i64 0]) ∧ Below w.heap.size w w' := by
  have c0 : w.cell? ⟨C, 0, none⟩ = some (.pointer (some ⟨V, 0, none⟩)) := by rw [cells_at h]; rfl
  have HV := hid hv
  have HJ := hid hJ
  clear h hv hJ
  go_enter Tryz.func23, Tryz.ntmps23
  go_wp2_with fail
  refine HV.out.mono ?_
  rintro e w1 ⟨av, cv, rfl, hrd, hb1⟩
  have HRD := hid hrd
  clear hrd
  go_wp2_with (go_at_call 43; refine (told_ok av cv size J _ HJ.out HRD.out).mono ?_; rintro e w2 ⟨rfl, rfl⟩)
  go_ret2
  exact ⟨rfl, hb1⟩

set_option maxRecDepth 100000 in
theorem cshard_of (C V i m : Nat) (nm : ByteArray) (X : List UInt8) (w : World) (h : Cf w C V) (hm : m = X.length)
    (hv : Calls Tryz.prog 44 #[.pointer (some ⟨V, 0, none⟩), .int .i64 i, .string nm] w fun e w' => ∃ av cv, e = .returned (.tuple #[.slice av m cv, .nilIface]) ∧ Rd w' av (bs X) ∧ Below w.heap.size w w') :
    Calls Tryz.prog 21 #[.pointer (some ⟨C, 0, none⟩), .int .i64 i, .string nm] w fun e w' => e = .returned (.tuple #[.string ⟨X.toArray⟩, .int .i64 0]) ∧ Below w.heap.size w w' := by
  have c0 : w.cell? ⟨C, 0, none⟩ = some (.pointer (some ⟨V, 0, none⟩)) := by rw [cells_at h]; rfl
  have HV := hid hv
  have HJ := hid hm
  clear h hv hm
  go_enter Tryz.func21, Tryz.ntmps21
  go_wp2_with fail
  refine HV.out.mono ?_
  rintro e w1 ⟨av, cv, rfl, hrd, hb1⟩
  have HRD := hid hrd
  clear hrd
  go_wp2_with (go_at_call 43; refine (told_ok av cv m X _ HJ.out HRD.out).mono ?_; rintro e w2 ⟨rfl, rfl⟩)
  go_ret2
  exact ⟨rfl, hb1⟩

/-- The shard of store i. -/
theorem One.shard {w : World} {base V key n B bc : Nat} {sp : Nat → Nat} {down : Nat → Bool} {mode t l size epoch : Nat} {nm : ByteArray} {P : Nat → List UInt8} {vs : Nat → Value} {xs : Nat → RecV} (h : One w base V key n B bc sp down mode t l size epoch nm P vs xs) (C i : Nat) (hc : Cf w C V) (hp : IsPlan mode t l n) (hi : i < n) :
    Calls Tryz.prog 21 #[.pointer (some ⟨C, 0, none⟩), .int .i64 i, .string nm] w fun e w' => e = .returned (.tuple #[.string ⟨(Cof.sealed key (Cof.head mode t l n i epoch size nm.data.toList ++ P i)).toArray⟩, .int .i64 0]) ∧ Below w.heap.size w w' := by
  obtain ⟨done, ahead, hvt⟩ := h.vt
  have hR := hvt.rdy hp.n1 hp.n8
  obtain ⟨a, c, _, hst⟩ := (h.st i hi).st
  have hok := h.ok i hi
  have hnm' := hok.e.1
  have hXl : (Cof.sealed key (Cof.head mode t l n i epoch size nm.data.toList ++ P i)).length = 10 + nm.size + (P i).length + 8 := by
    unfold Cof.sealed
    simp [Cof.length_head, Cof.length_high]
    omega
  refine cshard_of C V i (10 + nm.size + (P i).length + 8) nm _ w hc hXl.symm ?_
  refine (vshard_yes V key n B bc sp i (down i) a c [xs i] (xs i) nm w hR hi hst (has_one hnm') (by rw [pos_one hnm']; rfl)).mono ?_
  rintro e w' ⟨rfl, hb⟩
  obtain ⟨sa', sc', hsv, hrd⟩ := owns_rd_size hok.own
  have hsn := hok.sn
  refine ⟨(xs i).sa, (xs i).sc, by rw [hsn], ?_, hb⟩
  cases hsv
  exact hrd.below hb (Nat.le_refl _)

set_option maxRecDepth 100000 in
set_option maxHeartbeats 1000000 in
theorem cobjects_one (C V key n B bc : Nat) (sp : Nat → Nat) (down : Bool) (v : Value) (r : RecV) (w : World) (hc : Cf w C V) (h : Rdy w V key n B bc sp) (hs : Sto w (sp 0) down v [r]) (hnm : r.name.size ≤ 1000) :
    Calls Tryz.prog 37 #[.pointer (some ⟨C, 0, none⟩)] w fun e w' => ∃ ov, e = .returned ov ∧ w'.ownsRow w.heap.size 65 6 ov 1 r.obj ∧ Below w.heap.size w w' := by
  have c0 : w.cell? ⟨C, 0, none⟩ = some (.pointer (some ⟨V, 0, none⟩)) := by rw [cells_at hc]; rfl
  have HV := hid (vobjects_any V key n B bc sp down v [r] w h hs)
  clear hc h hs
  go_enter Tryz.func37, Tryz.ntmps37
  go_wp2_with fail
  refine HV.out.mono ?_
  rintro e w1 ⟨ov, rfl, hown, hb1⟩
  rw [show objs [r] = r.obj by simp [objs], show [r].length = 1 from rfl] at hown
  obtain ⟨g, cap, rfl, hg1, hg2⟩ := row_some hown (by decide)
  have HO := hid hown
  clear hown
  go_wp2_with fail
  go_loopw [12] (fun u wr => ∃ (k : Nat), k ≤ 1 ∧ u = .int .i64 k ∧ Below w1.heap.size w1 wr) (fun u _ => 1 - (intOf u).toNat)
  case atStart => exact ⟨0, Nat.zero_le _, rfl, Below.refl _ _⟩
  case round =>
    obtain ⟨k, hk, rfl, hbr⟩ := hrel
    have hor := owns_below_size HO.out hbr (Nat.le_refl _)
    have q0 : wr.cell? ⟨g, 0, none⟩ = some (.string r.name) := by rw [hor.cellAt 0 (by decide)]; rfl
    by_cases hk0 : k = 0
    · subst hk0
      clear hor
      go_wp2_with fail
      refine (sclone_any r.name wr (by omega)).mono ?_
      rintro e w4 ⟨rfl, hb4⟩
      have hbr4 := hbr.trans (hb4.mono hbr.size)
      have hor4 := owns_below_size HO.out hbr4 (Nat.le_refl _)
      have q4 : w4.cell? ⟨g, 0, none⟩ = some (.string r.name) := by rw [hor4.cellAt 0 (by decide)]; rfl
      have f4 : w4.frozen? ⟨g, 0, none⟩ = false := hor4.frozenAt 0
      have HSS := hid (setCell_self q4)
      clear hor4
      go_wp2_with fail
      go_roundw
      case rel => exact ⟨1, Nat.le_refl _, by go_num, by rw [HSS.out]; exact hbr4⟩
      case measure => simp [intOf]
    · have hk1 : k = 1 := by omega
      subst hk1
      have HOR := hid hor
      clear hor
      go_wp2_with fail
      go_ret
      exact ⟨_, rfl, HOR.out, hb1.trans (hbr.mono hb1.size)⟩

/-- What an opened coffer has, for a Put. -/
theorem Opening.parts {w w1 : World} {key n : Nat} {ps : List Nat} {v : Value} (h : Opening w key n ps v w1) (h1 : 1 ≤ n) : ∃ B bc, Vt w1 w.heap.size key n B bc (fun i => ps[i]!) 0 false 0 false ∧ (∀ i, i < n → Sto w1 (ps[i]!) false (.slice none 0 0) []) ∧ (∀ i j, i < j → j < n → ps[i]! ≠ ps[j]!) ∧ w.heap.size ≤ B ∧ ∀ i, i < n → w.heap.size ≤ ps[i]! := by
  obtain ⟨g, cap, rfl, hg1, hg2⟩ := row_some h.row (by omega)
  have hlen := h.len
  rcases h.row with ⟨_, ⟨hx, _⟩ | ⟨g', cap', cur, hv, _, h4, _, _, _, h8⟩⟩
  · cases hx
  · cases hv
    have hmem : ∀ i, i < n → ps[i]! ∈ ps := fun i hi => by rw [getElem!_pos ps i (by omega)]; exact List.getElem_mem _
    refine ⟨g, cap, ⟨h.hp, cur, h4, fun i hi => ?_⟩, fun i hi => ⟨(h.st _ (hmem i hi)).1, ⟨rfl, .inl ⟨rfl, rfl⟩⟩, sorted_nil, by simp⟩, fun i j hij hj e => ?_, hg1, fun i hi => Nat.le_of_lt (h.st _ (hmem i hi)).2⟩
    · have e1 : (cur.toList.take (n * 1))[i]? = (ptrs ps)[i]? := by rw [h8]
      rw [List.getElem?_take, if_pos (by omega)] at e1
      rw [← Array.getElem?_toList, e1, getElem!_pos ps i (by omega)]
      simp [ptrs, show i < ps.length by omega]
    · rw [getElem!_pos ps i (by omega), getElem!_pos ps j (by omega)] at e
      exact List.pairwise_iff_getElem.1 h.nd i j (by omega) (by omega) hij e
end Go.Proofs.YtcegdgmbponapabGreatDoor
