/-
  The calls of a coffer that only read.
  cofferkeep.fresh.
-/
import Derived.Test.YtcegdgmbponapaaGreatDoorPart34
namespace Go.Proofs.YtcegdgmbponapaaGreatDoor
open Go.RowKit
attribute [local go_sem ↓] Go.wp_at_zero Go.wp_at_succ

set_option maxRecDepth 100000 in
theorem cget_of (C V size : Nat) (nm : ByteArray) (J : List UInt8) (w : World) (h : Cf w C V) (hJ : size = J.length)
    (hv : Calls Tryz.prog 50 #[.pointer (some ⟨V, 0, none⟩), .string nm] w fun e w' => ∃ av cv, e = .returned (.tuple #[.slice av size cv, .nilIface]) ∧ Rd w' av (bs J) ∧ Below w.heap.size w w') :
    Calls Tryz.prog 24 #[.pointer (some ⟨C, 0, none⟩), .string nm] w fun e w' => e = .returned (.tuple #[.string ⟨J.toArray⟩, .int .i64 0]) ∧ Below w.heap.size w w' := by
  have c0 : w.cell? ⟨C, 0, none⟩ = some (.pointer (some ⟨V, 0, none⟩)) := by rw [cells_at h]; rfl
  have HV := hid hv
  have HJ := hid hJ
  clear h hv hJ
  go_enter Tryz.func24, Tryz.ntmps24
  go_wp2_with fail
  refine HV.out.mono ?_
  rintro e w1 ⟨av, cv, rfl, hrd, hb1⟩
  have HRD := hid hrd
  clear hrd
  go_wp2_with (go_at_call 47; refine (told_ok av cv size J _ HJ.out HRD.out).mono ?_; rintro e w2 ⟨rfl, rfl⟩)
  go_ret2
  exact ⟨rfl, hb1⟩

set_option maxRecDepth 100000 in
theorem cshard_of (C V i m : Nat) (nm : ByteArray) (X : List UInt8) (w : World) (h : Cf w C V) (hm : m = X.length)
    (hv : Calls Tryz.prog 48 #[.pointer (some ⟨V, 0, none⟩), .int .i64 i, .string nm] w fun e w' => ∃ av cv, e = .returned (.tuple #[.slice av m cv, .nilIface]) ∧ Rd w' av (bs X) ∧ Below w.heap.size w w') :
    Calls Tryz.prog 22 #[.pointer (some ⟨C, 0, none⟩), .int .i64 i, .string nm] w fun e w' => e = .returned (.tuple #[.string ⟨X.toArray⟩, .int .i64 0]) ∧ Below w.heap.size w w' := by
  have c0 : w.cell? ⟨C, 0, none⟩ = some (.pointer (some ⟨V, 0, none⟩)) := by rw [cells_at h]; rfl
  have HV := hid hv
  have HJ := hid hm
  clear h hv hm
  go_enter Tryz.func22, Tryz.ntmps22
  go_wp2_with fail
  refine HV.out.mono ?_
  rintro e w1 ⟨av, cv, rfl, hrd, hb1⟩
  have HRD := hid hrd
  clear hrd
  go_wp2_with (go_at_call 47; refine (told_ok av cv m X _ HJ.out HRD.out).mono ?_; rintro e w2 ⟨rfl, rfl⟩)
  go_ret2
  exact ⟨rfl, hb1⟩

/-- The shard of store i. -/
theorem One.shard {w : World} {base V key n B bc : Nat} {sp : Nat → Nat} {down : Nat → Bool} {mode t l size epoch : Nat} {nm : ByteArray} {P : Nat → List UInt8} {vs : Nat → Value} {xs : Nat → RecV} (h : One w base V key n B bc sp down mode t l size epoch nm P vs xs) (C i : Nat) (hc : Cf w C V) (hp : IsPlan mode t l n) (hi : i < n) :
    Calls Tryz.prog 22 #[.pointer (some ⟨C, 0, none⟩), .int .i64 i, .string nm] w fun e w' => e = .returned (.tuple #[.string ⟨(Cof.sealed key (Cof.head mode t l n i epoch size nm.data.toList ++ P i)).toArray⟩, .int .i64 0]) ∧ Below w.heap.size w w' := by
  obtain ⟨done, ahead, hvt⟩ := h.vt
  have hR := hvt.rdy hp.n1 hp.n8
  obtain ⟨a, c, _, hst⟩ := (h.st i hi).st
  have hok := h.ok i hi
  have hnm' := hok.e.1
  have hXl : (Cof.sealed key (Cof.head mode t l n i epoch size nm.data.toList ++ P i)).length = 10 + nm.size + (P i).length + 8 := by
    unfold Cof.sealed
    simp [Cof.length_head, Cof.length_high]
    omega
  refine cshard_of C V i (10 + nm.size + (P i).length + 8) nm _ w hc hXl.symm ?_
  refine (vshard_yes V key n B bc sp i (down i) a c [xs i] (xs i) nm w hR hi hst (has_one hnm') (by rw [pos_one hnm']; rfl)).mono ?_
  rintro e w' ⟨rfl, hb⟩
  obtain ⟨sa', sc', hsv, hrd⟩ := owns_rd_size hok.own
  have hsn := hok.sn
  refine ⟨(xs i).sa, (xs i).sc, by rw [hsn], ?_, hb⟩
  cases hsv
  exact hrd.below hb (Nat.le_refl _)

set_option maxRecDepth 100000 in
set_option maxHeartbeats 1000000 in
theorem cobjects_one (C V key n B bc : Nat) (sp : Nat → Nat) (down : Bool) (v : Value) (r : RecV) (w : World) (hc : Cf w C V) (h : Rdy w V key n B bc sp) (hs : Sto w (sp 0) down v [r]) (hnm : r.name.size ≤ 1000) :
    Calls Tryz.prog 27 #[.pointer (some ⟨C, 0, none⟩)] w fun e w' => ∃ ov, e = .returned ov ∧ w'.ownsRow w.heap.size 55 6 ov 1 r.obj ∧ Below w.heap.size w w' := by
  have c0 : w.cell? ⟨C, 0, none⟩ = some (.pointer (some ⟨V, 0, none⟩)) := by rw [cells_at hc]; rfl
  have HV := hid (vobjects_any V key n B bc sp down v [r] w h hs)
  clear hc h hs
  go_enter Tryz.func27, Tryz.ntmps27
  go_wp2_with fail
  refine HV.out.mono ?_
  rintro e w1 ⟨ov, rfl, hown, hb1⟩
  rw [show objs [r] = r.obj by simp [objs], show [r].length = 1 from rfl] at hown
  obtain ⟨g, cap, rfl, hg1, hg2⟩ := row_some hown (by decide)
  have HO := hid hown
  clear hown
  go_wp2_with fail
  go_loopw [12] (fun u wr => ∃ (k : Nat), k ≤ 1 ∧ u = .int .i64 k ∧ Below w1.heap.size w1 wr) (fun u _ => 1 - (intOf u).toNat)
  case atStart => exact ⟨0, Nat.zero_le _, rfl, Below.refl _ _⟩
  case round =>
    obtain ⟨k, hk, rfl, hbr⟩ := hrel
    have hor := owns_below_size HO.out hbr (Nat.le_refl _)
    have q0 : wr.cell? ⟨g, 0, none⟩ = some (.string r.name) := by rw [hor.cellAt 0 (by decide)]; rfl
    by_cases hk0 : k = 0
    · subst hk0
      clear hor
      go_wp2_with fail
      refine (sclone_any r.name wr (by omega)).mono ?_
      rintro e w4 ⟨rfl, hb4⟩
      have hbr4 := hbr.trans (hb4.mono hbr.size)
      have hor4 := owns_below_size HO.out hbr4 (Nat.le_refl _)
      have q4 : w4.cell? ⟨g, 0, none⟩ = some (.string r.name) := by rw [hor4.cellAt 0 (by decide)]; rfl
      have f4 : w4.frozen? ⟨g, 0, none⟩ = false := hor4.frozenAt 0
      have HSS := hid (setCell_self q4)
      clear hor4
      go_wp2_with fail
      go_roundw
      case rel => exact ⟨1, Nat.le_refl _, by go_num, by rw [HSS.out]; exact hbr4⟩
      case measure => simp [intOf]
    · have hk1 : k = 1 := by omega
      subst hk1
      have HOR := hid hor
      clear hor
      go_wp2_with fail
      go_ret
      exact ⟨_, rfl, HOR.out, hb1.trans (hbr.mono hb1.size)⟩

/-- What an opened coffer has, for a Put. -/
theorem Opening.parts {w w1 : World} {key n : Nat} {ps : List Nat} {v : Value} (h : Opening w key n ps v w1) (h1 : 1 ≤ n) : ∃ B bc, Vt w1 w.heap.size key n B bc (fun i => ps[i]!) 0 false 0 false ∧ (∀ i, i < n → Sto w1 (ps[i]!) false (.slice none 0 0) []) ∧ (∀ i j, i < j → j < n → ps[i]! ≠ ps[j]!) ∧ w.heap.size ≤ B ∧ ∀ i, i < n → w.heap.size ≤ ps[i]! := by
  obtain ⟨g, cap, rfl, hg1, hg2⟩ := row_some h.row (by omega)
  have hlen := h.len
  rcases h.row with ⟨_, ⟨hx, _⟩ | ⟨g', cap', cur, hv, _, h4, _, _, _, h8⟩⟩
  · cases hx
  · cases hv
    have hmem : ∀ i, i < n → ps[i]! ∈ ps := fun i hi => by rw [getElem!_pos ps i (by omega)]; exact List.getElem_mem _
    refine ⟨g, cap, ⟨h.hp, cur, h4, fun i hi => ?_⟩, fun i hi => ⟨(h.st _ (hmem i hi)).1, ⟨rfl, .inl ⟨rfl, rfl⟩⟩, sorted_nil, by simp⟩, fun i j hij hj e => ?_, hg1, fun i hi => Nat.le_of_lt (h.st _ (hmem i hi)).2⟩
    · have e1 : (cur.toList.take (n * 1))[i]? = (ptrs ps)[i]? := by rw [h8]
      rw [List.getElem?_take, if_pos (by omega)] at e1
      rw [← Array.getElem?_toList, e1, getElem!_pos ps i (by omega)]
      simp [ptrs, show i < ps.length by omega]
    · rw [getElem!_pos ps i (by omega), getElem!_pos ps j (by omega)] at e
      exact List.pairwise_iff_getElem.1 h.nd i j (by omega) (by omega) hij e
end Go.Proofs.YtcegdgmbponapaaGreatDoor

namespace Go.Proofs.YtcegdgmbponapaaGreatDoor
open Go.RowKit
attribute [local go_sem ↓] Go.wp_at_zero Go.wp_at_succ

set_option maxRecDepth 100000 in
set_option maxHeartbeats 2000000 in
theorem fresh_ok (n key mode t l : Nat) (vl tape : ByteArray) (w : World) (hp : IsPlan mode t l n) (hz : vl.size ≤ 60) (hng : Cof.ngroups mode t l vl.size ≤ 60) (htp : Cof.tsize mode t * Cof.ngroups mode t l vl.size ≤ tape.size) (hk : key < 18446744073709551616) :
    Calls Tryz.prog 15 #[.int .i64 n, .int .u64 key, .agg #[.int .i64 mode, .int .i64 t, .int .i64 l], .string vl, .string tape] w fun e w' =>
      ∃ C V B bc sp vs xs, e = .returned (.pointer (some ⟨C, 0, none⟩)) ∧ Cf w' C V ∧ w.heap.size ≤ C ∧ One w' w.heap.size V key n B bc sp (fun _ => false) mode t l vl.size 0 ⟨#[107]⟩ (fun i => (Cof.split vl.data.toList mode t l n tape.data.toList).getD i []) vs xs ∧ Below w.heap.size w w' := by
  have hn1 := hp.n1
  have hn8 := hp.n8
  have hba := (Below.refl w.heap.size w).alloc (Nat.le_refl _) (.cells #[.int .i64 mode, .int .i64 t, .int .i64 l] 29)
  obtain ⟨w1, hw1⟩ : ∃ w1, w1 = w.alloc (.cells #[.int .i64 mode, .int .i64 t, .int .i64 l] 29) := ⟨_, rfl⟩
  have HPB := hid (show w1.heap[w.heap.size]? = some (.cells #[.int .i64 mode, .int .i64 t, .int .i64 l] 29) by rw [hw1]; exact alloc_at _ _)
  rw [← hw1] at hba
  have HOP := hid (copen_any n key w1 hn1 hn8)
  have HP := hid hp
  have HTP := hid htp
  have HW1 := hid hw1
  have hl1 : w.heap.size < w1.heap.size := cells_lt HPB.out
  clear hp htp hw1
  go_enter Tryz.func15, Tryz.ntmps15
  go_wp2_with fail
  rw [← HW1.out]
  refine HOP.out.mono ?_
  rintro e w3 ⟨C, w2, ps, v, rfl, hop, rfl, hw3⟩
  obtain ⟨B, bc, hvt, hst, hsi, hbB, hbs⟩ := hop.parts hn1
  have hb12 := hop.bl
  have hb23 : Below w2.heap.size w2 w3 := by rw [hw3]; exact (Below.refl _ _).alloc (Nat.le_refl _) _
  have hCf : Cf w3 w2.heap.size w1.heap.size := by unfold Cf; rw [hw3]; exact alloc_at _ _
  have hb13 := hb12.trans (hb23.mono hb12.size)
  have hs23 : Spared (fun _ => False) w2 w3 := Spared.ofBelow hb23 (Nat.le_refl _)
  have hlC := cells_lt hCf
  have hlV := cells_lt hvt.hp
  have hsl : ∀ i, i < n → ps[i]! < w2.heap.size := fun i hi => cells_lt (hst i hi).hp
  have p0 : w3.cell? ⟨w.heap.size, 0, none⟩ = some (.int .i64 mode) := by rw [hb13.cell (by exact hl1), cells_at HPB.out]; rfl
  have p1 : w3.cell? ⟨w.heap.size, 1, none⟩ = some (.int .i64 t) := by rw [hb13.cell (by exact hl1), cells_at HPB.out]; rfl
  have p2 : w3.cell? ⟨w.heap.size, 2, none⟩ = some (.int .i64 l) := by rw [hb13.cell (by exact hl1), cells_at HPB.out]; rfl
  have HPUT := hid (cput_nil w2.heap.size w1.heap.size mode t l ⟨#[107]⟩ vl tape w3 (fun b => b = w1.heap.size ∨ ∃ i, i < n ∧ b = ps[i]!)
    (fun w' => ∃ vs xs, One w' w.heap.size w1.heap.size key n B bc (fun i => ps[i]!) (fun _ => false) mode t l vl.size 0 ⟨#[107]⟩ (fun i => (Cof.split vl.data.toList mode t l n tape.data.toList).getD i []) vs xs)
    hCf (fun h => by rcases h with h | ⟨i, hi, h⟩; (· omega); (· have := hsl i hi; omega)) (fun b h => by rcases h with rfl | ⟨i, hi, rfl⟩; (· omega); (· have := hsl i hi; omega))
    (fun w4 hb4 => by
      have hs24 : Spared (fun _ => False) w2 w4 := hs23.trans (Spared.ofBelow hb4 (Nat.le_refl _))
      refine (vput_ok w1.heap.size key n B bc (fun i => ps[i]!) 0 0 mode t l vl.size ⟨#[107]⟩ vl tape w4 (hvt.keeps hs24 (fun h => h) (fun h => h)) (fun i hi => (hst i hi).keeps hs24 (fun h => h) (fun _ _ h => h)) hsi HP.out hz rfl (by decide) (by decide) hng HTP.out hk w.heap.size (by omega) (by omega) (fun i hi => by have := hbs i hi; omega)).mono ?_
      rintro e w5 ⟨rfl, ⟨vs, xs, hone, _⟩, hsp⟩
      exact ⟨rfl, ⟨vs, xs, hone⟩, hsp⟩))
  have HCF := hid hCf
  have HB13 := hid hb13
  have HSL := hid hsl
  have HBS := hid hbs
  clear hop hvt hst hsi hbB hbs hCf hs23 hb13 hsl hb12 hb23 hw3
  go_wp2_with fail
  refine HPUT.out.mono ?_
  rintro e w5 ⟨rfl, ⟨vs, xs, hone⟩, hsp⟩
  have HONE := hid hone
  have HSP := hid hsp
  clear hone hsp
  go_wp2_with fail
  go_ret
  have hb13 := HB13.out
  refine ⟨_, w1.heap.size, B, bc, fun i => ps[i]!, vs, xs, rfl, HCF.out.keeps HSP.out (fun h => by rcases h with h | ⟨i, hi, h⟩; (· omega); (· have := HSL.out i hi; omega)), by have := HONE.out.bV; omega, HONE.out, ?_⟩
  have hb03 := hba.trans (hb13.mono (by omega))
  exact hb03.trans (HSP.out.below w.heap.size (by have := hb03.size; omega) (fun q hq => by rcases hq with rfl | ⟨i, hi, rfl⟩; (· omega); (· have := HBS.out i hi; omega)))
end Go.Proofs.YtcegdgmbponapaaGreatDoor
