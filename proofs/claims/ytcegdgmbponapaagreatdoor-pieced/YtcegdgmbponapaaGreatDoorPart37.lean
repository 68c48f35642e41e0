/-
  cofferkeep.within.
  Refresh of what was split: either mode.
-/
import Derived.Test.YtcegdgmbponapaaGreatDoorPart36
namespace Go.Proofs.YtcegdgmbponapaaGreatDoor
open Go.RowKit
attribute [local go_sem ↓] Go.wp_at_zero Go.wp_at_succ

theorem inner_bytes (key mode t l n i epoch size ng : Nat) (P : List UInt8) (hP : P.length = ng) :
    ((⟨(Cof.sealed key (Cof.head mode t l n i epoch size (⟨#[107]⟩ : ByteArray).data.toList ++ P)).toArray⟩ : ByteArray).extract 11 (11 + ng)) = ⟨P.toArray⟩ := by
  apply ba_ext
  simp only [ByteArray.data_extract, Array.toList_extract]
  have hh : (Cof.head mode t l n i epoch size (⟨#[107]⟩ : ByteArray).data.toList).length = 11 := by rw [Cof.length_head]; rfl
  generalize Cof.head mode t l n i epoch size (⟨#[107]⟩ : ByteArray).data.toList = hd at *
  unfold Cof.sealed
  simp only [List.extract, Nat.add_sub_cancel_left]
  rw [List.append_assoc, List.drop_append_of_le_length (by omega), List.drop_of_length_le (by omega), List.nil_append, List.take_append_of_le_length (by omega), List.take_of_length_le (by omega)]

set_option maxRecDepth 100000 in
set_option maxHeartbeats 1000000 in
theorem One.within {w : World} {base V key n B bc : Nat} {sp : Nat → Nat} {down : Nat → Bool} {mode t l size epoch : Nat} {P : Nat → List UInt8} {vs : Nat → Value} {xs : Nat → RecV} (h : One w base V key n B bc sp down mode t l size epoch ⟨#[107]⟩ P vs xs) (C i : Nat) (hc : Cf w C V) (hp : IsPlan mode t l n) (hs : size ≤ 60) (hi : i < n) (hP : (P i).length = Cof.ngroups mode t l size) :
    Calls Tryz.prog 29 #[.pointer (some ⟨C, 0, none⟩), .int .i64 i, .agg #[.int .i64 mode, .int .i64 t, .int .i64 l], .int .i64 size] w fun e w' => e = .returned (.tuple #[.string ⟨(P i).toArray⟩, .bool true]) ∧ Below w.heap.size w w' := by
  have hba := (Below.refl w.heap.size w).alloc (Nat.le_refl _) (.cells #[.int .i64 mode, .int .i64 t, .int .i64 l] 29)
  obtain ⟨w1, hw1⟩ : ∃ w1, w1 = w.alloc (.cells #[.int .i64 mode, .int .i64 t, .int .i64 l] 29) := ⟨_, rfl⟩
  have HPB := hid (show w1.heap[w.heap.size]? = some (.cells #[.int .i64 mode, .int .i64 t, .int .i64 l] 29) by rw [hw1]; exact alloc_at _ _)
  rw [← hw1] at hba
  have HSH := hid ((h.below hba).shard C i (hc.keeps (Spared.ofBelow (own := fun _ => False) hba (Nat.le_refl _)) (fun h => h)) hp hi)
  have HKG := hid (fun w => keepGroups_any mode t l n size w hp hs)
  have hng := ngroups_le hp size hs
  obtain ⟨ng, hngE⟩ : ∃ ng, ng = Cof.ngroups mode t l size := ⟨_, rfl⟩
  rw [← hngE] at HKG hP hng
  have hex := inner_bytes key mode t l n i epoch size ng (P i) hP
  have hsz : (⟨(Cof.sealed key (Cof.head mode t l n i epoch size (⟨#[107]⟩ : ByteArray).data.toList ++ P i)).toArray⟩ : ByteArray).size = 11 + ng + 8 := by
    show (Cof.sealed key _).toArray.size = _
    unfold Cof.sealed
    simp [Cof.length_head, Cof.length_high, hP]
    omega
  generalize (⟨(Cof.sealed key (Cof.head mode t l n i epoch size (⟨#[107]⟩ : ByteArray).data.toList ++ P i)).toArray⟩ : ByteArray) = bk at *
  generalize (⟨(P i).toArray⟩ : ByteArray) = pk at *
  have HEX := hid hex
  have hbi : (bk.size : Int) = 11 + (ng : Int) + 8 := by omega
  have hr1 : (11 : Int) + (ng : Int) ≤ (bk.size : Int) := by omega
  have hr2 : 11 + ng ≤ bk.size := by omega
  have hr3 : (11 : Int) ≤ 11 + (ng : Int) := by omega
  have HW1 := hid hw1
  have hl := cells_lt HPB.out
  clear h hc hp hs hP hex hsz hngE hw1
  go_enter Tryz.func29, Tryz.ntmps29
  go_wp2_with fail
  rw [← HW1.out]
  refine HSH.out.mono ?_
  rintro e w2 ⟨rfl, hb2⟩
  have g0 : w2.cell? ⟨w.heap.size, 0, none⟩ = some (.int .i64 mode) := by rw [hb2.cell (by exact hl), cells_at HPB.out]; rfl
  have g1 : w2.cell? ⟨w.heap.size, 1, none⟩ = some (.int .i64 t) := by rw [hb2.cell (by exact hl), cells_at HPB.out]; rfl
  have g2 : w2.cell? ⟨w.heap.size, 2, none⟩ = some (.int .i64 l) := by rw [hb2.cell (by exact hl), cells_at HPB.out]; rfl
  go_wp2_with (go_at_call 26; refine (HKG.out w2).mono ?_; rintro e w3 ⟨rfl, hb3⟩)
  have hb12 := hba.trans (hb2.mono hba.size)
  rw [HEX.out]
  go_ret2
  exact ⟨rfl, hb12.trans (hb3.mono hb12.size)⟩
end Go.Proofs.YtcegdgmbponapaaGreatDoor

namespace Go.Proofs.YtcegdgmbponapaaGreatDoor
open Go.RowKit

theorem again_tape (x y : ByteArray) (h : y.size = x.size) : ∃ z : ByteArray, z.size = x.size ∧ ∀ k, z.data.toList.getD k 0 = x.data.toList.getD k 0 ^^^ y.data.toList.getD k 0 := by
  refine ⟨⟨(xorL x.data.toList y.data.toList).toArray⟩, xor_size x y, fun k => ?_⟩
  show (xorL x.data.toList y.data.toList).getD k 0 = _
  unfold xorL
  rw [List.getD_eq_getElem?_getD, List.getElem?_map]
  by_cases hk : k < x.data.toList.length
  · rw [List.getElem?_range hk]; rfl
  · have hk2 : y.data.toList.length ≤ k := by
      have e1 : y.data.toList.length = y.size := rfl
      have e2 : x.data.toList.length = x.size := rfl
      omega
    rw [List.getElem?_eq_none (by simpa using hk)]
    rw [List.getD_eq_getElem?_getD, List.getElem?_eq_none (by omega), List.getD_eq_getElem?_getD, List.getElem?_eq_none hk2]
    rfl

theorem One.again {w : World} {base V key n B bc : Nat} {sp : Nat → Nat} {mode t l r : Nat} {v x : ByteArray} {vs : Nat → Value} {xs : Nat → RecV} (h : One w base V key n B bc sp (fun _ => false) mode t l v.size (if mode = 0 then r else 0) ⟨#[107]⟩ (fun i => (Cof.split v.data.toList mode t l n x.data.toList).getD i []) vs xs)
    (C : Nat) (y : ByteArray) (hc : Cf w C V) (hp : IsPlan mode t l n) (hr : r < 100) (hz : v.size ≤ 60) (hk : key < 18446744073709551616) (hx : x.size = Cof.tsize mode t * Cof.ngroups mode t l v.size) (hy : y.size = Cof.tsize mode t * Cof.ngroups mode t l v.size) (hT : Tab w) (hg : ErrType w) :
    Calls Tryz.prog 17 #[.pointer (some ⟨C, 0, none⟩), .string ⟨#[107]⟩, .string y] w fun e w' =>
      e = .returned (.int .i64 (if mode = 0 then 0 else 11)) ∧ (∃ (x' : ByteArray) (ys : Nat → RecV), x'.size = Cof.tsize mode t * Cof.ngroups mode t l v.size ∧ One w' base V key n B bc sp (fun _ => false) mode t l v.size (if mode = 0 then r + 1 else 0) ⟨#[107]⟩ (fun i => (Cof.split v.data.toList mode t l n x'.data.toList).getD i []) vs ys) ∧ Spared (fun b => b = V ∨ ∃ i, i < n ∧ (vs i).ownBlock = some b) w w' := by
  by_cases hm : mode = 0
  · rw [if_pos hm] at h
    rw [if_pos hm, if_pos hm]
    have hng := ngroups_le hp v.size hz
    refine (crefresh_nil C V ⟨#[107]⟩ y w _ hc (vrefresh_ok base V key n B bc sp mode t l v.size r ⟨#[107]⟩ y _ vs xs w h hp hm hr hz (by decide) (by decide) hk hng (fun i hi => split_len hp _ _ i hi (by show _ ≤ x.size; exact Nat.le_of_eq hx.symm)) (Nat.le_of_eq hy.symm) hT)).mono ?_
    rintro e w' ⟨rfl, ⟨ys, hone, _⟩, hsp⟩
    obtain ⟨z, hzs, hzx⟩ := again_tape x y (by rw [hx, hy])
    refine ⟨rfl, ⟨z, ys, by rw [hzs, hx], ?_⟩, hsp⟩
    have hvl : v.data.toList.length = v.size := rfl
    refine hone.congr (fun i hi => ?_)
    rw [← hvl]
    exact split_sum mode t l n hp v.data.toList x.data.toList y.data.toList z.data.toList i hi (by rw [hvl]; exact hx) (by show y.size = x.size; rw [hx, hy]) hzs hzx
  · have hm1 : mode = 1 := by rcases hp.md with ⟨h, _⟩ | ⟨h, _⟩ <;> omega
    subst hm1
    rw [if_neg hm] at h
    rw [if_neg hm, if_neg hm]
    refine (h.refresh_mode C y hc hp hg).mono ?_
    rintro e w' ⟨rfl, hb⟩
    exact ⟨rfl, ⟨x, xs, hx, h.below hb⟩, Spared.ofBelow hb (Nat.le_refl _)⟩
end Go.Proofs.YtcegdgmbponapaaGreatDoor
