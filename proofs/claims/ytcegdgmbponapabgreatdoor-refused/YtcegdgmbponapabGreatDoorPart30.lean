/-
  cofferkeep.fresh.
  Pieces that noughts' pieces are added to; what a coffer keeps.
  Refresh of what is dispersed is refused; within.
-/
import Derived.Test.YtcegdgmbponapabGreatDoorPart27
import Derived.Test.YtcegdgmbponapabGreatDoorPart04
import Derived.Test.YtcegdgmbponapabGreatDoorPart24
namespace Go.Proofs.YtcegdgmbponapabGreatDoor
open Go.RowKit
attribute [local go_sem ↓] Go.wp_at_zero Go.wp_at_succ

set_option maxRecDepth 100000 in
set_option maxHeartbeats 2000000 in
theorem fresh_ok (n key mode t l : Nat) (vl tape : ByteArray) (w : World) (hp : IsPlan mode t l n) (hz : vl.size ≤ 60) (hng : Cof.ngroups mode t l vl.size ≤ 60) (htp : Cof.tsize mode t * Cof.ngroups mode t l vl.size ≤ tape.size) (hk : key < 18446744073709551616) :
    Calls Tryz.prog 14 #[.int .i64 n, .int .u64 key, .agg #[.int .i64 mode, .int .i64 t, .int .i64 l], .string vl, .string tape] w fun e w' =>
      ∃ C V B bc sp vs xs, e = .returned (.pointer (some ⟨C, 0, none⟩)) ∧ Cf w' C V ∧ w.heap.size ≤ C ∧ One w' w.heap.size V key n B bc sp (fun _ => false) mode t l vl.size 0 ⟨#[107]⟩ (fun i => (Cof.split vl.data.toList mode t l n tape.data.toList).getD i []) vs xs ∧ Below w.heap.size w w' := by
  have hn1 := hp.n1
  have hn8 := hp.n8
  have hba := (Below.refl w.heap.size w).alloc (Nat.le_refl _) (.cells #[.int .i64 mode, .int .i64 t, .int .i64 l] 29)
  obtain ⟨w1, hw1⟩ : ∃ w1, w1 = w.alloc (.cells #[.int .i64 mode, .int .i64 t, .int .i64 l] 29) := ⟨_, rfl⟩
  have HPB := hid (show w1.heap[w.heap.size]? = some (.cells #[.int .i64 mode, .int .i64 t, .int .i64 l] 29) by rw [hw1]; exact alloc_at _ _)
  rw [← hw1] at hba
  have HOP := hid (copen_any n key w1 hn1 hn8)
  have HP := hid hp
  have HTP := hid htp
  have HW1 := hid hw1
  have hl1 : w.heap.size < w1.heap.size := cells_lt HPB.out
  clear hp htp hw1
  go_enter Tryz.func14, Tryz.ntmps14
  go_wp2_with fail
  rw [← HW1.out]
  refine HOP.out.mono ?_
  rintro e w3 ⟨C, w2, ps, v, rfl, hop, rfl, hw3⟩
  obtain ⟨B, bc, hvt, hst, hsi, hbB, hbs⟩ := hop.parts hn1
  have hb12 := hop.bl
  have hb23 : Below w2.heap.size w2 w3 := by rw [hw3]; exact (Below.refl _ _).alloc (Nat.le_refl _) _
  have hCf : Cf w3 w2.heap.size w1.heap.size := by unfold Cf; rw [hw3]; exact alloc_at _ _
  have hb13 := hb12.trans (hb23.mono hb12.size)
  have hs23 : Spared (fun _ => False) w2 w3 := Spared.ofBelow hb23 (Nat.le_refl _)
  have hlC := cells_lt hCf
  have hlV := cells_lt hvt.hp
  have hsl : ∀ i, i < n → ps[i]! < w2.heap.size := fun i hi => cells_lt (hst i hi).hp
  have p0 : w3.cell? ⟨w.heap.size, 0, none⟩ = some (.int .i64 mode) := by rw [hb13.cell (by exact hl1), cells_at HPB.out]; rfl
  have p1 : w3.cell? ⟨w.heap.size, 1, none⟩ = some (.int .i64 t) := by rw [hb13.cell (by exact hl1), cells_at HPB.out]; rfl
  have p2 : w3.cell? ⟨w.heap.size, 2, none⟩ = some (.int .i64 l) := by rw [hb13.cell (by exact hl1), cells_at HPB.out]; rfl
  have HPUT := hid (cput_nil w2.heap.size w1.heap.size mode t l ⟨#[107]⟩ vl tape w3 (fun b => b = w1.heap.size ∨ ∃ i, i < n ∧ b = ps[i]!)
    (fun w' => ∃ vs xs, One w' w.heap.size w1.heap.size key n B bc (fun i => ps[i]!) (fun _ => false) mode t l vl.size 0 ⟨#[107]⟩ (fun i => (Cof.split vl.data.toList mode t l n tape.data.toList).getD i []) vs xs)
    hCf (fun h => by rcases h with h | ⟨i, hi, h⟩; (· omega); (· have := hsl i hi; omega)) (fun b h => by rcases h with rfl | ⟨i, hi, rfl⟩; (· omega); (· have := hsl i hi; omega))
    (fun w4 hb4 => by
      have hs24 : Spared (fun _ => False) w2 w4 := hs23.trans (Spared.ofBelow hb4 (Nat.le_refl _))
      refine (vput_ok w1.heap.size key n B bc (fun i => ps[i]!) 0 0 mode t l vl.size ⟨#[107]⟩ vl tape w4 (hvt.keeps hs24 (fun h => h) (fun h => h)) (fun i hi => (hst i hi).keeps hs24 (fun h => h) (fun _ _ h => h)) hsi HP.out hz rfl (by decide) (by decide) hng HTP.out hk w.heap.size (by omega) (by omega) (fun i hi => by have := hbs i hi; omega)).mono ?_
      rintro e w5 ⟨rfl, ⟨vs, xs, hone, _⟩, hsp⟩
      exact ⟨rfl, ⟨vs, xs, hone⟩, hsp⟩))
  have HCF := hid hCf
  have HB13 := hid hb13
  have HSL := hid hsl
  have HBS := hid hbs
  clear hop hvt hst hsi hbB hbs hCf hs23 hb13 hsl hb12 hb23 hw3
  go_wp2_with fail
  refine HPUT.out.mono ?_
  rintro e w5 ⟨rfl, ⟨vs, xs, hone⟩, hsp⟩
  have HONE := hid hone
  have HSP := hid hsp
  clear hone hsp
  go_wp2_with fail
  go_ret
  have hb13 := HB13.out
  refine ⟨_, w1.heap.size, B, bc, fun i => ps[i]!, vs, xs, rfl, HCF.out.keeps HSP.out (fun h => by rcases h with h | ⟨i, hi, h⟩; (· omega); (· have := HSL.out i hi; omega)), by have := HONE.out.bV; omega, HONE.out, ?_⟩
  have hb03 := hba.trans (hb13.mono (by omega))
  exact hb03.trans (HSP.out.below w.heap.size (by have := hb03.size; omega) (fun q hq => by rcases hq with rfl | ⟨i, hi, rfl⟩; (· omega); (· have := HBS.out i hi; omega)))
end Go.Proofs.YtcegdgmbponapabGreatDoor

namespace Go.Proofs.YtcegdgmbponapabGreatDoor
open Go.RowKit

theorem split_sum (mode t l n : Nat) (hp : IsPlan mode t l n) (v a b x : List UInt8) (i : Nat) (hi : i < n) (ha : a.length = Cof.tsize mode t * Cof.ngroups mode t l v.length) (hb : b.length = a.length) (hx : x.length = a.length) (hxx : ∀ k, x.getD k 0 = a.getD k 0 ^^^ b.getD k 0) :
    Cof.sumRow ((Cof.split v mode t l n a).getD i []) ((Cof.split (List.replicate v.length 0) mode t l n b).getD i []) = (Cof.split v mode t l n x).getD i [] := by
  have hg : 0 < Cof.gsize mode t l := by
    obtain ⟨_, _, h3, _, h5, _⟩ := hp
    unfold Cof.gsize
    split <;> omega
  rw [Cof.split_row v a mode t l n i hi hg ha, Cof.split_row _ b mode t l n i hi hg (by rw [hb, ha, List.length_replicate]), Cof.split_row v x mode t l n i hi hg (by rw [hx, ha]), List.length_replicate]
  apply List.ext_getElem
  · simp [Cof.length_sumRow]
  · intro g h1 h2
    have hg' : g < Cof.ngroups mode t l v.length := by simpa using h2
    have e := Cof.piece_linear v (List.replicate v.length 0) a b v x mode t l i g (fun k => by
      have : (List.replicate v.length (0 : UInt8)).getD k 0 = 0 := by
        rw [List.getD_eq_getElem?_getD, List.getElem?_replicate]
        split <;> rfl
      rw [this]; simp) hxx
    simp only [List.getElem_map, List.getElem_range, Cof.sumRow]
    rw [e]
    simp [hg']

theorem One.congr {w : World} {base V key n B bc : Nat} {sp : Nat → Nat} {down : Nat → Bool} {mode t l size epoch : Nat} {nm : ByteArray} {P P' : Nat → List UInt8} {vs : Nat → Value} {xs : Nat → RecV} (h : One w base V key n B bc sp down mode t l size epoch nm P vs xs) (e : ∀ i, i < n → P i = P' i) : One w base V key n B bc sp down mode t l size epoch nm P' vs xs :=
  ⟨h.vt, h.st, fun i hi => by rw [← e i hi]; exact h.ok i hi, h.xi, h.vi, h.si, h.bV, h.bB, h.bsp, h.bv⟩

theorem One.keeps {own : Nat → Prop} {w w' : World} {base V key n B bc : Nat} {sp : Nat → Nat} {down : Nat → Bool} {mode t l size epoch : Nat} {nm : ByteArray} {P : Nat → List UInt8} {vs : Nat → Value} {xs : Nat → RecV} (h : One w base V key n B bc sp down mode t l size epoch nm P vs xs) (hs : Spared own w w')
    (h1 : ¬ own V) (h2 : ¬ own B) (h3 : ∀ i, i < n → ¬ own (sp i)) (h4 : ∀ i, i < n → ∀ b, (vs i).ownBlock = some b → ¬ own b) (h5 : ∀ i, i < n → ∀ b, (xs i).blk = some b → ¬ own b) : One w' base V key n B bc sp down mode t l size epoch nm P vs xs := by
  obtain ⟨done, ahead, hvt⟩ := h.vt
  exact ⟨⟨done, ahead, hvt.keeps hs h1 h2⟩, fun i hi => (h.st i hi).keeps hs (h3 i hi) (h4 i hi), fun i hi => (h.ok i hi).keeps hs (h5 i hi), h.xi, h.vi, h.si, h.bV, h.bB, h.bsp, h.bv⟩

theorem One.below {w w' : World} {base V key n B bc : Nat} {sp : Nat → Nat} {down : Nat → Bool} {mode t l size epoch : Nat} {nm : ByteArray} {P : Nat → List UInt8} {vs : Nat → Value} {xs : Nat → RecV} (h : One w base V key n B bc sp down mode t l size epoch nm P vs xs) (hb : Below w.heap.size w w') : One w' base V key n B bc sp down mode t l size epoch nm P vs xs :=
  h.keeps (Spared.ofBelow (own := fun _ => False) hb (Nat.le_refl _)) (fun h => h) (fun h => h) (fun _ _ h => h) (fun _ _ _ _ h => h) (fun _ _ _ _ h => h)

/-- All that a coffer has lies from its base on. -/
theorem One.lo {w : World} {base V key n B bc : Nat} {sp : Nat → Nat} {down : Nat → Bool} {mode t l size epoch : Nat} {nm : ByteArray} {P : Nat → List UInt8} {vs : Nat → Value} {xs : Nat → RecV} (h : One w base V key n B bc sp down mode t l size epoch nm P vs xs) (i : Nat) (hi : i < n) (b : Nat) (hb : (xs i).blk = some b) : base ≤ b ∧ b < w.heap.size := (h.ok i hi).own.lt b hb

theorem One.hi {w : World} {base V key n B bc : Nat} {sp : Nat → Nat} {down : Nat → Bool} {mode t l size epoch : Nat} {nm : ByteArray} {P : Nat → List UInt8} {vs : Nat → Value} {xs : Nat → RecV} (h : One w base V key n B bc sp down mode t l size epoch nm P vs xs) : V < w.heap.size ∧ B < w.heap.size ∧ (∀ i, i < n → sp i < w.heap.size) ∧ ∀ i, i < n → ∀ b, (vs i).ownBlock = some b → b < w.heap.size := by
  obtain ⟨done, ahead, hvt⟩ := h.vt
  obtain ⟨L, hL, _⟩ := hvt.hb
  exact ⟨cells_lt hvt.hp, cells_lt hL, fun i hi => cells_lt (h.st i hi).hp, fun i hi b hb => ((h.st i hi).row.lt b hb).2⟩
end Go.Proofs.YtcegdgmbponapabGreatDoor

namespace Go.Proofs.YtcegdgmbponapabGreatDoor
open Go.RowKit
attribute [local go_sem ↓] Go.wp_at_zero Go.wp_at_succ

set_option maxRecDepth 100000 in
set_option maxHeartbeats 1000000 in
theorem refreshed_mode (V : Nat) (t l size epoch : Nat) (nm tape : ByteArray) (w : World) :
    Calls Tryz.prog 62 #[.pointer (some ⟨V, 0, none⟩), .agg #[.string nm, .int .i64 1, .int .i64 t, .int .i64 l, .int .i64 size, .int .i64 epoch], .string tape] w fun e w' =>
      ∃ ev, e = .returned (.tuple #[.slice none 0 0, ev]) ∧ Chain w' 11 1 ev ∧ Below w.heap.size w w' := by
  have hba := (Below.refl w.heap.size w).alloc (Nat.le_refl _) (.cells #[.string nm, .int .i64 1, .int .i64 t, .int .i64 l, .int .i64 size, .int .i64 epoch] 65)
  go_enter Tryz.func62, Tryz.ntmps62
  go_wp2_with (go_at_call 53; refine (at_chain _ _ 11 0 _ .hit).mono ?_; rintro e w2 ⟨e2, rfl, hch, hb2⟩; obtain ⟨te, ve, rfl⟩ := hch.shape)
  go_ret2
  exact ⟨_, rfl, hch, hba.trans (hb2.mono (by simp))⟩

set_option maxRecDepth 100000 in
set_option maxHeartbeats 1000000 in
theorem One.refresh_mode {w : World} {base V key n B bc : Nat} {sp : Nat → Nat} {down : Nat → Bool} {t l size epoch : Nat} {nm : ByteArray} {P : Nat → List UInt8} {vs : Nat → Value} {xs : Nat → RecV} (h : One w base V key n B bc sp down 1 t l size epoch nm P vs xs) (C : Nat) (tape : ByteArray) (hc : Cf w C V) (hp : IsPlan 1 t l n) (hg : ErrType w) :
    Calls Tryz.prog 17 #[.pointer (some ⟨C, 0, none⟩), .string nm, .string tape] w fun e w' => e = .returned (.int .i64 11) ∧ Below w.heap.size w w' := by
  have hn1' := hp.n1
  have hn8 := hp.n8
  obtain ⟨done, ahead, hvt⟩ := h.vt
  have hR := hvt.rdy hn1' hn8
  obtain ⟨a0, c0', _, hst0⟩ := (h.st 0 (by omega)).st
  have hok0 := h.ok 0 (by omega)
  have HOBJ := hid (object_yes V key n B bc sp (down 0) a0 c0' [xs 0] (xs 0) nm w hR hst0 (has_one hok0.e.1) (by rw [pos_one hok0.e.1]; rfl))
  rw [hok0.e.1, hok0.e.2.1, hok0.e.2.2.1, hok0.e.2.2.2.1, hok0.e.2.2.2.2.1, hok0.e.2.2.2.2.2.1] at HOBJ
  have hv : Calls Tryz.prog 39 #[.pointer (some ⟨V, 0, none⟩), .string nm, .string tape] w fun e w' => ∃ ev, e = .returned ev ∧ Chain w' 11 2 ev ∧ Below w.heap.size w w' := by
    clear h hvt hR hst0 hok0 hc hp hg
    go_enter Tryz.func39, Tryz.ntmps39
    go_wp2_with fail
    refine HOBJ.out.mono ?_
    rintro e w1 ⟨rfl, hb1⟩
    have hba := hb1.alloc hb1.size (.cells #[.string nm, .int .i64 1, .int .i64 t, .int .i64 l, .int .i64 size, .int .i64 epoch] 65)
    go_wp2_with fail
    refine (refreshed_mode V t l size epoch nm tape _).mono ?_
    rintro e w2 ⟨ev, rfl, hch, hb2⟩
    obtain ⟨te, ve, rfl⟩ := hch.shape
    have HCH := hid hch
    have hb02 := hba.trans (hb2.mono (by have := hb1.size; simp; omega))
    clear hch
    go_wp2_with (go_at_call 53; refine (at_chain _ _ 11 1 _ HCH.out).mono ?_; rintro e w3 ⟨e3, rfl, hch3, hb3⟩)
    go_ret
    exact ⟨_, rfl, hch3, hb02.trans (hb3.mono hb02.size)⟩
  have c0 : w.cell? ⟨C, 0, none⟩ = some (.pointer (some ⟨V, 0, none⟩)) := by rw [cells_at hc]; rfl
  have HV := hid hv
  have HG := hid hg
  clear h hvt hR hst0 hok0 hc hp hg hv HOBJ
  go_enter Tryz.func17, Tryz.ntmps17
  go_wp2_with fail
  refine HV.out.mono ?_
  rintro e w1 ⟨ev, rfl, hch, hb1⟩
  have HNU := hid (number_chain 11 w1 2 ev hch (by decide) (HG.out.keeps hb1 (Nat.le_refl _)))
  obtain ⟨te, ve, rfl⟩ := hch.shape
  clear hch
  go_wp2_with (go_at_call 36; refine HNU.out.mono ?_; rintro e w2 ⟨rfl, hb2⟩)
  go_ret
  exact ⟨rfl, hb1.trans (hb2.mono hb1.size)⟩
end Go.Proofs.YtcegdgmbponapabGreatDoor
