/-
  Pieces that noughts' pieces are added to; what a coffer keeps.
  cofferkeep.Mixes.
-/
import Derived.Test.YtcegdgmbponapaaGreatDoorPart34
import Derived.Test.YtcegdgmbponapaaGreatDoorPart06
import Derived.Test.YtcegdgmbponapaaGreatDoorPart30
import Derived.BigQuiet
namespace Go.Proofs.YtcegdgmbponapaaGreatDoor
open Go.RowKit

theorem split_sum (mode t l n : Nat) (hp : IsPlan mode t l n) (v a b x : List UInt8) (i : Nat) (hi : i < n) (ha : a.length = Cof.tsize mode t * Cof.ngroups mode t l v.length) (hb : b.length = a.length) (hx : x.length = a.length) (hxx : ∀ k, x.getD k 0 = a.getD k 0 ^^^ b.getD k 0) :
    Cof.sumRow ((Cof.split v mode t l n a).getD i []) ((Cof.split (List.replicate v.length 0) mode t l n b).getD i []) = (Cof.split v mode t l n x).getD i [] := by
  have hg : 0 < Cof.gsize mode t l := by
    obtain ⟨_, _, h3, _, h5, _⟩ := hp
    unfold Cof.gsize
    split <;> omega
  rw [Cof.split_row v a mode t l n i hi hg ha, Cof.split_row _ b mode t l n i hi hg (by rw [hb, ha, List.length_replicate]), Cof.split_row v x mode t l n i hi hg (by rw [hx, ha]), List.length_replicate]
  apply List.ext_getElem
  · simp [Cof.length_sumRow]
  · intro g h1 h2
    have hg' : g < Cof.ngroups mode t l v.length := by simpa using h2
    have e := Cof.piece_linear v (List.replicate v.length 0) a b v x mode t l i g (fun k => by
      have : (List.replicate v.length (0 : UInt8)).getD k 0 = 0 := by
        rw [List.getD_eq_getElem?_getD, List.getElem?_replicate]
        split <;> rfl
      rw [this]; simp) hxx
    simp only [List.getElem_map, List.getElem_range, Cof.sumRow]
    rw [e]
    simp [hg']

theorem One.congr {w : World} {base V key n B bc : Nat} {sp : Nat → Nat} {down : Nat → Bool} {mode t l size epoch : Nat} {nm : ByteArray} {P P' : Nat → List UInt8} {vs : Nat → Value} {xs : Nat → RecV} (h : One w base V key n B bc sp down mode t l size epoch nm P vs xs) (e : ∀ i, i < n → P i = P' i) : One w base V key n B bc sp down mode t l size epoch nm P' vs xs :=
  ⟨h.vt, h.st, fun i hi => by rw [← e i hi]; exact h.ok i hi, h.xi, h.vi, h.si, h.bV, h.bB, h.bsp, h.bv⟩

theorem One.keeps {own : Nat → Prop} {w w' : World} {base V key n B bc : Nat} {sp : Nat → Nat} {down : Nat → Bool} {mode t l size epoch : Nat} {nm : ByteArray} {P : Nat → List UInt8} {vs : Nat → Value} {xs : Nat → RecV} (h : One w base V key n B bc sp down mode t l size epoch nm P vs xs) (hs : Spared own w w')
    (h1 : ¬ own V) (h2 : ¬ own B) (h3 : ∀ i, i < n → ¬ own (sp i)) (h4 : ∀ i, i < n → ∀ b, (vs i).ownBlock = some b → ¬ own b) (h5 : ∀ i, i < n → ∀ b, (xs i).blk = some b → ¬ own b) : One w' base V key n B bc sp down mode t l size epoch nm P vs xs := by
  obtain ⟨done, ahead, hvt⟩ := h.vt
  exact ⟨⟨done, ahead, hvt.keeps hs h1 h2⟩, fun i hi => (h.st i hi).keeps hs (h3 i hi) (h4 i hi), fun i hi => (h.ok i hi).keeps hs (h5 i hi), h.xi, h.vi, h.si, h.bV, h.bB, h.bsp, h.bv⟩

theorem One.below {w w' : World} {base V key n B bc : Nat} {sp : Nat → Nat} {down : Nat → Bool} {mode t l size epoch : Nat} {nm : ByteArray} {P : Nat → List UInt8} {vs : Nat → Value} {xs : Nat → RecV} (h : One w base V key n B bc sp down mode t l size epoch nm P vs xs) (hb : Below w.heap.size w w') : One w' base V key n B bc sp down mode t l size epoch nm P vs xs :=
  h.keeps (Spared.ofBelow (own := fun _ => False) hb (Nat.le_refl _)) (fun h => h) (fun h => h) (fun _ _ h => h) (fun _ _ _ _ h => h) (fun _ _ _ _ h => h)

/-- All that a coffer has lies from its base on. -/
theorem One.lo {w : World} {base V key n B bc : Nat} {sp : Nat → Nat} {down : Nat → Bool} {mode t l size epoch : Nat} {nm : ByteArray} {P : Nat → List UInt8} {vs : Nat → Value} {xs : Nat → RecV} (h : One w base V key n B bc sp down mode t l size epoch nm P vs xs) (i : Nat) (hi : i < n) (b : Nat) (hb : (xs i).blk = some b) : base ≤ b ∧ b < w.heap.size := (h.ok i hi).own.lt b hb

theorem One.hi {w : World} {base V key n B bc : Nat} {sp : Nat → Nat} {down : Nat → Bool} {mode t l size epoch : Nat} {nm : ByteArray} {P : Nat → List UInt8} {vs : Nat → Value} {xs : Nat → RecV} (h : One w base V key n B bc sp down mode t l size epoch nm P vs xs) : V < w.heap.size ∧ B < w.heap.size ∧ (∀ i, i < n → sp i < w.heap.size) ∧ ∀ i, i < n → ∀ b, (vs i).ownBlock = some b → b < w.heap.size := by
  obtain ⟨done, ahead, hvt⟩ := h.vt
  obtain ⟨L, hL, _⟩ := hvt.hb
  exact ⟨cells_lt hvt.hp, cells_lt hL, fun i hi => cells_lt (h.st i hi).hp, fun i hi b hb => ((h.st i hi).row.lt b hb).2⟩
end Go.Proofs.YtcegdgmbponapaaGreatDoor

namespace Go.Proofs.YtcegdgmbponapaaGreatDoor
open Go.RowKit
attribute [local go_sem ↓] Go.wp_at_zero Go.wp_at_succ

set_option maxRecDepth 100000 in
set_option maxHeartbeats 4000000 in
theorem mixes_any (rn : Int) (key : Nat) (m t l : Int) (value first second : ByteArray) (w : World) (hrn : I64 rn) (ht : I64 t) (hl : I64 l) (hk : key < 18446744073709551616) (h1 : first.size ≤ maxLen) (h2 : second.size ≤ maxLen) (hT : Tab w) :
    Calls Tryz.prog 6 #[.int .i64 rn, .int .u64 key, .agg #[.int .i64 m, .int .i64 t, .int .i64 l], .string value, .string first, .string second] w fun e w' => e = .returned (.bool true) ∧ Below w.heap.size w w' := by
  obtain ⟨i0, hi, hz0, hz1, hz2⟩ := info_parts Tryz.info5
  have hq8 := pickN_lt rn 8 (by omega)
  have HT := hid hT
  clear hT
  go_enter Tryz.func6, Tryz.ntmps6
  go_wp2_with fail
  refine (pick_any rn 8 _ hrn.1 hrn.2 (by omega) (by omega)).mono ?_
  rintro e w0 ⟨rfl, rfl⟩
  generalize pickN rn 8 = q at *
  obtain ⟨n, hn⟩ : ∃ n, n = 1 + q := ⟨_, rfl⟩
  have hni : 1 + (q : Int) = (n : Int) := by omega
  have hn1 : 1 ≤ n := by omega
  have hn8 : n ≤ 8 := by omega
  clear hn
  go_wp2_with fail
  refine (plan_any 0 t l n _ ⟨by decide, by decide⟩ ht hl hn1 hn8).mono ?_
  rintro e w1 ⟨rfl, hb1⟩
  have hplan := plan_is 0 t l n hn1 hn8
  have hm0 : pMode 0 = 0 := rfl
  obtain ⟨mode, hmd⟩ : ∃ mode, mode = pMode 0 := ⟨_, rfl⟩
  rw [← hmd] at hplan hm0 ⊢
  have HMD := hid hm0
  clear hm0 hmd
  generalize pT t n = T at *
  generalize pL 0 t l n = L at *
  have hb01 : Below w.heap.size w w1 := ((Below.refl _ _).alloc (Nat.le_refl _) _).trans (hb1.mono (by simp))
  have hz01 : w.heap.size ≤ w1.heap.size := hb01.size
  clear hb1
  go_wp2_with fail
  refine (short_any value 60 _ (by omega)).mono ?_
  rintro e w2 ⟨rfl, hw2⟩
  have HPB := hid (show w2.heap[w1.heap.size]? = some (.cells #[.int .i64 mode, .int .i64 T, .int .i64 L] 29) by rw [hw2]; exact alloc_at _ _)
  have hb02 : Below w.heap.size w w2 := by rw [hw2]; exact hb01.alloc hb01.size _
  have hl2 := cells_lt HPB.out
  have HPL := hid (show ∀ w', Below w2.heap.size w2 w' → w'.cell? ⟨w1.heap.size, 0, none⟩ = some (.int .i64 mode) ∧ w'.cell? ⟨w1.heap.size, 1, none⟩ = some (.int .i64 T) ∧ w'.cell? ⟨w1.heap.size, 2, none⟩ = some (.int .i64 L) from fun w' hb => ⟨by rw [hb.cell (by exact hl2), cells_at HPB.out]; rfl, by rw [hb.cell (by exact hl2), cells_at HPB.out]; rfl, by rw [hb.cell (by exact hl2), cells_at HPB.out]; rfl⟩)
  have hv60 : (value.extract 0 60).size ≤ 60 := by simp; omega
  generalize value.extract 0 60 = v at *
  obtain ⟨p0, p1, p2⟩ := HPL.out w2 (Below.refl _ _)
  have hng := ngroups_le hplan v.size hv60
  clear hw2
  go_wp2_with fail
  refine (tape_any first mode T L n v.size _ hplan hv60 h1).mono ?_
  rintro e w3 ⟨sa, rfl, hsa, hb3⟩
  have HSA := hid hsa
  obtain ⟨q0, q1, q2⟩ := HPL.out w3 hb3
  clear hsa p0 p1 p2
  go_wp2_with fail
  refine (tape_any second mode T L n v.size _ hplan hv60 h2).mono ?_
  rintro e w4 ⟨sb, rfl, hsb, hb4⟩
  have HSB := hid hsb
  have hb24 := hb3.trans (hb4.mono hb3.size)
  obtain ⟨p0, p1, p2⟩ := HPL.out w4 hb24
  clear hsb q0 q1 q2 hb3 hb4
  have HFC := hid (fresh_ok n key mode T L v sa w4 hplan hv60 hng (Nat.le_of_eq HSA.out.symm) hk)
  go_wp2_with fail
  refine HFC.out.mono ?_
  rintro e w5 ⟨C, VC, BC, bcC, spC, vsC, xsC, rfl, hCf, hCl, hC, hb5⟩
  have hb25 := hb24.trans (hb5.mono hb24.size)
  obtain ⟨q0, q1, q2⟩ := HPL.out w5 hb25
  have HCF := hid hCf
  have HC := hid hC
  have hss : sa.size = sb.size := by rw [HSA.out, HSB.out]
  have hs1000 : sa.size ≤ 1000 := by
    rw [HSA.out]
    have := (gsize_le hplan).2.2
    have := Nat.mul_le_mul this hng
    omega
  have HXR := hid (fun w' => xor_any sa sb w' hss hs1000)
  obtain ⟨sx, hsx⟩ : ∃ sx : ByteArray, sx = ⟨(xorL sa.data.toList sb.data.toList).toArray⟩ := ⟨_, rfl⟩
  rw [← hsx] at HXR
  have HSX := hid hsx
  have hsxs : sx.size = sa.size := by rw [hsx]; exact xor_size sa sb
  have HFD := hid (fun w' => fresh_ok n key mode T L v sx w' hplan hv60 hng (by rw [hsxs]; exact Nat.le_of_eq HSA.out.symm) hk)
  have HSXS := hid hsxs
  clear hCf hC p0 p1 p2 hsx hsxs hss
  go_wp2_with fail
  go_region_held3 (fun w' => w'.cell? ⟨w1.heap.size, 0, none⟩ = some (.int .i64 mode) ∧ w'.cell? ⟨w1.heap.size, 1, none⟩ = some (.int .i64 T) ∧ w'.cell? ⟨w1.heap.size, 2, none⟩ = some (.int .i64 L)) (first | exact ⟨q0, q1, q2⟩ | exact D7.out | exact D6.out | go_keep)
    (first
      | (go_at_call 25; refine (HXR.out _).mono ?_; rintro e w6 ⟨rfl, hb6⟩; (have hb56 : Below w5.heap.size w5 w6 := (Below.refl w5.heap.size w5).drew.trans hb6); (have D6 := hid (HPL.out w6 (hb25.trans (hb56.mono hb25.size)))))
      | (go_at_call 15; refine (HFD.out _).mono ?_; rintro e w7 ⟨D, VD, BD, bcD, spD, vsD, xsD, rfl, hDf, hDl, hD, hb7⟩; (have hb57 : Below w5.heap.size w5 w7 := hb56.trans (hb7.mono hb56.size)); (have D7 := hid (HPL.out w7 (hb25.trans (hb57.mono hb25.size)))); (have HDF := hid hDf); (have HD := hid hD); (have HDL := hid hDl); clear hDf hD hDl))
  have hb27 := hb25.trans (hb57.mono hb25.size)
  have hb07 := hb02.trans (hb27.mono hb02.size)
  have hC7 := HC.out.below hb57
  have hCf7 : Cf w7 C VC := HCF.out.keeps (Spared.ofBelow (own := fun _ => False) hb57 (Nat.le_refl _)) (fun h => h)
  have hPL1 : ∀ (tp : ByteArray), tp.size = sa.size → ∀ i, i < n → ((Cof.split v.data.toList mode T L n tp.data.toList).getD i []).length = Cof.ngroups mode T L v.size := fun tp htp i hi => split_len hplan _ _ i hi (by show _ ≤ tp.size; rw [htp]; exact Nat.le_of_eq HSA.out.symm)
  have HRC := hid (crefresh_nil C VC ⟨#[107]⟩ sb w7 _ hCf7 (vrefresh_ok w4.heap.size VC key n BC bcC spC mode T L v.size 0 ⟨#[107]⟩ sb _ vsC xsC w7 hC7 hplan HMD.out (by decide) hv60 (by decide) (by decide) hk hng (hPL1 sa rfl) (Nat.le_of_eq HSB.out.symm) (HT.out.keeps hb07 (Nat.le_refl _))))
  have hCh := HC.out.hi
  have hDlo : w6.heap.size ≤ VD := HD.out.bV
  have h56 := hb56.size
  have HPL1 := hid hPL1
  have HC7 := hid hC7
  have HCF7 := hid hCf7
  have HCH := hid hCh
  have hl7 : w1.heap.size < w7.heap.size := Nat.lt_of_lt_of_le hl2 hb27.size
  clear hC7 hCf7 hPL1 hCh
  go_wp2_with fail
  refine HRC.out.mono ?_
  rintro e w8 ⟨rfl, ⟨ysC, hC8, hnewC⟩, hsp8⟩
  have HC8 := hid hC8
  have HNC := hid hnewC
  have HS8 := hid hsp8
  clear hC8 hnewC hsp8
  have hownC : ∀ b, (b = VC ∨ ∃ i, i < n ∧ (vsC i).ownBlock = some b) → w4.heap.size ≤ b ∧ b < w5.heap.size := by
    rintro b (rfl | ⟨i, hi, hb⟩)
    · exact ⟨HC.out.bV, HCH.out.1⟩
    · exact ⟨HC.out.bv i hi b hb, HCH.out.2.2.2 i hi b hb⟩
  have HOC := hid hownC
  have hD8 := HD.out.keeps HS8.out (fun h => by have := hownC _ h; have := HD.out.bV; omega) (fun h => by have := hownC _ h; have := HD.out.bB; omega) (fun i hi h => by have := hownC _ h; have := HD.out.bsp i hi; omega) (fun i hi b hb h => by have := hownC _ h; have := HD.out.bv i hi b hb; omega) (fun i hi b hb h => by have := hownC _ h; have := (HD.out.lo i hi b hb).1; omega)
  have hDf8 : Cf w8 D VD := HDF.out.keeps HS8.out (fun h => by have := hownC _ h; have := HDL.out; omega)
  have hCf8 : Cf w8 C VC := HCF7.out.keeps HS8.out (fun h => by
    obtain ⟨dn, ah, hvt⟩ := HC7.out.vt
    rcases h with h | ⟨i, hi, hb⟩
    · have h1 := HCF7.out
      unfold Cf at h1
      rw [h, hvt.hp] at h1
      cases h1
    · exact row_ne (HC7.out.st i hi).row HCF7.out (by decide) hb)
  have HD8 := hid hD8
  have HDF8 := hid hDf8
  have HCF8 := hid hCf8
  have hsz8 := HS8.out.size
  obtain ⟨sz, hsz⟩ : ∃ sz : ByteArray, sz = ⟨(List.replicate sa.size (0 : UInt8)).toArray⟩ := ⟨_, rfl⟩
  have HZ := hid hsz
  clear hD8 hDf8 hCf8 hownC hsz
  go_wp2_with (first | (at_make; refine wpList_make_full _ rfl (.tmp 74) (.tmp 74) 50 rfl w8.heap.size 5 i0 (.int .u8 0) 1 Tryz.underlying50 hi hz0 hz1 .i64 .i64 _ _ sa.size rfl rfl rfl rfl (by rw [hz2]; omega) (by unfold maxLen; omega) (Nat.le_refl _) ?_; intro w9 hown9 hgrow9; (have hcv := conv_string w9 (some ⟨w8.heap.size, 0, none⟩) sa.size sa.size (List.replicate sa.size 0) (by simp) (owns_rd (made_row hown9))); (rw [← HZ.out] at hcv); (have hb9 := grown_below hgrow9); clear hown9 hgrow9) | fail)
  have hb79 : Spared (fun b => b = VC ∨ ∃ i, i < n ∧ (vsC i).ownBlock = some b) w7 w9 := HS8.out.trans (Spared.ofBelow hb9 (Nat.le_refl _))
  have hszz : sz.size = sa.size := by rw [HZ.out]; show (List.replicate sa.size (0 : UInt8)).toArray.size = sa.size; rw [List.size_toArray, List.length_replicate]
  have hszl : sz.data.toList = List.replicate sa.size 0 := by rw [HZ.out]
  have hz4 := hb24.size
  have hz02 := hb02.size
  have hb09 : Below w.heap.size w w9 := hb07.trans (hb79.below w.heap.size hb07.size (fun b hb => by have := (HOC.out b hb).1; omega))
  have hT9 : Tab w9 := HT.out.keeps hb09 (Nat.le_refl _)
  have HRD := hid (crefresh_nil D VD ⟨#[107]⟩ sz w9 _ (HDF8.out.keeps (Spared.ofBelow (own := fun _ => False) hb9 (Nat.le_refl _)) (fun h => h)) (vrefresh_ok w6.heap.size VD key n BD bcD spD mode T L v.size 0 ⟨#[107]⟩ sz _ vsD xsD w9 (HD8.out.below hb9) hplan HMD.out (by decide) hv60 (by decide) (by decide) hk hng (HPL1.out sx HSXS.out) (by rw [hszz]; exact Nat.le_of_eq HSA.out.symm) hT9))
  clear hT9
  refine HRD.out.mono ?_
  rintro e w10 ⟨rfl, ⟨ysD, hD10, _⟩, hsp10⟩
  have hDh := HD.out.hi
  have hownD : ∀ b, (b = VD ∨ ∃ i, i < n ∧ (vsD i).ownBlock = some b) → w6.heap.size ≤ b ∧ b < w7.heap.size := by
    rintro b (rfl | ⟨i, hi, hb⟩)
    · exact ⟨HD.out.bV, hDh.1⟩
    · exact ⟨HD.out.bv i hi b hb, hDh.2.2.2 i hi b hb⟩
  have hC10 := (HC8.out.below hb9).keeps hsp10 (fun h => by have := hownD _ h; have := HCH.out.1; omega) (fun h => by have := hownD _ h; have := HCH.out.2.1; omega) (fun i hi h => by have := hownD _ h; have := HCH.out.2.2.1 i hi; omega) (fun i hi b hb h => by have := hownD _ h; have := HCH.out.2.2.2 i hi b hb; omega) (fun i hi b hb h => by have := hownD _ h; have := HNC.out i hi b hb; omega)
  have hCl5 := cells_lt HCF.out
  have hCf10 : Cf w10 C VC := (HCF8.out.keeps (Spared.ofBelow (own := fun _ => False) hb9 (Nat.le_refl _)) (fun h => h)).keeps hsp10 (fun h => by have := hownD _ h; omega)
  have hDf10 : Cf w10 D VD := (HDF8.out.keeps (Spared.ofBelow (own := fun _ => False) hb9 (Nat.le_refl _)) (fun h => h)).keeps hsp10 (fun h => by
    obtain ⟨dn, ah, hvt⟩ := HD.out.vt
    rcases h with h | ⟨i, hi, hb⟩
    · have h1 := HDF.out
      unfold Cf at h1
      rw [h, hvt.hp] at h1
      cases h1
    · exact row_ne (HD.out.st i hi).row HDF.out (by decide) hb)
  have hvl : v.data.toList.length = v.size := rfl
  have hal : sa.data.toList.length = sa.size := rfl
  have hxx : ∀ k, sx.data.toList.getD k 0 = sa.data.toList.getD k 0 ^^^ sb.data.toList.getD k 0 := by
    intro k
    rw [HSX.out]
    show (xorL sa.data.toList sb.data.toList).getD k 0 = _
    unfold xorL
    rw [List.getD_eq_getElem?_getD, List.getElem?_map]
    by_cases hk : k < sa.data.toList.length
    · rw [List.getElem?_range hk]; rfl
    · have hk2 : sb.data.toList.length ≤ k := by
        have e1 : sb.data.toList.length = sb.size := rfl
        have e2 := HSA.out
        have e3 := HSB.out
        omega
      rw [List.getElem?_eq_none (by simpa using hk)]
      rw [List.getD_eq_getElem?_getD, List.getElem?_eq_none (by omega), List.getD_eq_getElem?_getD, List.getElem?_eq_none hk2]
      rfl
  have hC11 := hC10.congr (P' := fun i => (Cof.split v.data.toList mode T L n sx.data.toList).getD i []) (fun i hi => by
    rw [← hvl]
    exact split_sum mode T L n hplan v.data.toList sa.data.toList sb.data.toList sx.data.toList i hi (by rw [hal, hvl]; exact HSA.out) (by show sb.size = sa.size; rw [HSB.out, HSA.out]) HSXS.out hxx)
  have hD11 := hD10.congr (P' := fun i => (Cof.split v.data.toList mode T L n sx.data.toList).getD i []) (fun i hi => by
    rw [← hvl]
    exact split_sum mode T L n hplan v.data.toList sx.data.toList sz.data.toList sx.data.toList i hi (by show sx.size = _; rw [HSXS.out, hvl]; exact HSA.out) (by show sz.size = sx.size; rw [hszz, HSXS.out]) rfl (fun k => by
      have : sz.data.toList.getD k 0 = 0 := by
        rw [hszl, List.getD_eq_getElem?_getD, List.getElem?_replicate]
        split <;> rfl
      rw [this]; simp))
  have hb010 : Below w.heap.size w w10 := hb09.trans (hsp10.below w.heap.size hb09.size (fun b hb => by have := (hownD b hb).1; omega))
  have HC11 := hid hC11
  have HD11 := hid hD11
  have HCF10 := hid hCf10
  have HDF10 := hid hDf10
  have HPL10 := hid (show w10.heap[w1.heap.size]? = some (.cells #[.int .i64 mode, .int .i64 T, .int .i64 L] 29) from by
    rw [hsp10.block _ (by have := hb79.size; omega) (fun h => by have := hownD _ h; omega), hb79.block _ hl7 (fun h => by have := HOC.out _ h; omega), hb27.block _ hl2]
    exact HPB.out)
  clear hC10 hC11 hD10 hD11 hCf10 hDf10 hsp10 hownD hDh hxx hvl hal hb79 hcv
  go_wp2_with fail
  have HKG := hid (fun w => keepGroups_any mode T L n v.size w hplan hv60)
  obtain ⟨ng, hngE⟩ : ∃ ng, ng = Cof.ngroups mode T L v.size := ⟨_, rfl⟩
  rw [← hngE] at HKG
  have HNG := hid hngE
  have hng60 : ng ≤ 60 := by omega
  clear hngE
  go_loopw [22] (fun u wr => ∃ (k : Nat), k ≤ n ∧ u = .int .i64 k ∧ Below w10.heap.size w10 wr) (fun u _ => n - (intOf u).toNat)
  case atStart => exact ⟨0, Nat.zero_le _, rfl, Below.refl _ _⟩
  case round =>
    obtain ⟨k, hkn, rfl, hbr⟩ := hrel
    by_cases hlt : k < n
    · have hlt' : (k : Int) < (n : Int) := by omega
      have HSC := hid ((HC11.out.below hbr).shard C k (HCF10.out.keeps (Spared.ofBelow (own := fun _ => False) hbr (Nat.le_refl _)) (fun h => h)) hplan hlt)
      have HSD := hid (fun w' (hb : Below wr.heap.size wr w') => ((HD11.out.below hbr).below hb).shard D k ((HDF10.out.keeps (Spared.ofBelow (own := fun _ => False) hbr (Nat.le_refl _)) (fun h => h)).keeps (Spared.ofBelow (own := fun _ => False) hb (Nat.le_refl _)) (fun h => h)) hplan hlt)
      obtain ⟨bk, hbk⟩ : ∃ bk : ByteArray, bk = ⟨(Cof.sealed key (Cof.head mode T L n k (0 + 1) v.size (⟨#[107]⟩ : ByteArray).data.toList ++ (Cof.split v.data.toList mode T L n sx.data.toList).getD k [])).toArray⟩ := ⟨_, rfl⟩
      rw [← hbk] at HSC HSD
      have hbs : bk.size = 11 + ng + 8 := by
        rw [hbk]
        show (Cof.sealed key _).toArray.size = _
        have := HPL1.out sx HSXS.out k hlt
        unfold Cof.sealed
        simp [Cof.length_head, Cof.length_high]
        rw [HNG.out]
        simp at this
        omega
      have hbi : (bk.size : Int) = 11 + (ng : Int) + 8 := by omega
      have HPLR := hid (show wr.heap[w1.heap.size]? = some (.cells #[.int .i64 mode, .int .i64 T, .int .i64 L] 29) from (hbr.block _ (cells_lt HPL10.out)).trans HPL10.out)
      have hlr := cells_lt HPLR.out
      clear hbk
      go_wp2_with fail
      refine HSC.out.mono ?_
      rintro e w11 ⟨rfl, hb11⟩
      go_wp2_with fail
      refine (HSD.out w11 hb11).mono ?_
      rintro e w12 ⟨rfl, hb12⟩
      have hbr12 := hb11.trans (hb12.mono hb11.size)
      have g0 : w12.cell? ⟨w1.heap.size, 0, none⟩ = some (.int .i64 mode) := by rw [hbr12.cell (by exact hlr), cells_at HPLR.out]; rfl
      have g1 : w12.cell? ⟨w1.heap.size, 1, none⟩ = some (.int .i64 T) := by rw [hbr12.cell (by exact hlr), cells_at HPLR.out]; rfl
      have g2 : w12.cell? ⟨w1.heap.size, 2, none⟩ = some (.int .i64 L) := by rw [hbr12.cell (by exact hlr), cells_at HPLR.out]; rfl
      go_wp2_with (go_at_call 26; refine (HKG.out w12).mono ?_; rintro e w13 ⟨rfl, hb13⟩)
      have hbr13 := hbr12.trans (hb13.mono hbr12.size)
      exact ⟨⟨k + 1, by omega, by rw [Int.natCast_add]; rfl, hbr.trans (hbr13.mono hbr.size)⟩, by simp [intOf]; omega⟩
    · have hkk : k = n := by omega
      subst hkk
      have hCr := HC11.out.below hbr
      have hup : upTo (fun _ => false) k = List.range k := by unfold upTo; rw [List.filter_eq_self]; intro a _; rfl
      obtain ⟨N, hN⟩ : ∃ N, N = Cof.gsize mode T L + Cof.tsize mode T := ⟨_, rfl⟩
      have hNk : N ≤ k := by
        obtain ⟨_, _, h3, h4, h5, h6⟩ := hplan
        have := HMD.out
        rw [hN]
        unfold Cof.gsize Cof.tsize
        split
        · omega
        · omega
      have hjs := Cof.join_split v.data.toList sx.data.toList mode T L k ((List.range k).take N) (by
          obtain ⟨_, _, h3, _, h5, _⟩ := hplan
          unfold Cof.gsize
          split <;> omega) (by obtain ⟨_, _, _, h4, _⟩ := hplan; omega) (by
          obtain ⟨_, _, h3, h4, h5, h6⟩ := hplan
          have := HMD.out
          omega) (by show sx.size = _; rw [HSXS.out]; exact HSA.out) (List.nodup_range.sublist (List.take_sublist _ _)) (fun s hs => by have := List.mem_range.1 (List.mem_of_mem_take hs); omega) (fun s hs => List.mem_range.1 (List.mem_of_mem_take hs)) (by rw [List.length_take, List.length_range, ← hN]; omega)
      have HGET := hid (cget_of C VC v.size ⟨#[107]⟩ v.data.toList wr (HCF10.out.keeps (Spared.ofBelow (own := fun _ => False) hbr (Nat.le_refl _)) (fun h => h)) rfl (vget_ok w4.heap.size VC key k BC bcC spC (fun _ => false) mode T L v.size (0 + 1) ⟨#[107]⟩ _ vsC ysC wr hCr hplan (by decide) hv60 (by decide) (by decide) hk hng (HPL1.out sx HSXS.out) ((HT.out.keeps hb010 (Nat.le_refl _)).keeps hbr (Nat.le_refl _)) N hN (by rw [hup, List.length_range]; exact hNk) v.data.toList (by rw [hup]; exact hjs)))
      rw [show (⟨v.data.toList.toArray⟩ : ByteArray) = v by simp] at HGET
      have HOBJS := hid (fun w' (hb : Below wr.heap.size wr w') => by
        obtain ⟨dn, ah, hvt⟩ := (hCr.below hb).vt
        exact cobjects_one C VC key k BC bcC spC false (vsC 0) (ysC 0) w' ((HCF10.out.keeps (Spared.ofBelow (own := fun _ => False) hbr (Nat.le_refl _)) (fun h => h)).keeps (Spared.ofBelow (own := fun _ => False) hb (Nat.le_refl _)) (fun h => h)) (hvt.rdy hn1 hn8) ((hCr.below hb).st 0 (by omega)) (by rw [(hCr.ok 0 (by omega)).e.1]; decide))
      have hok0 := (hCr.ok 0 (by omega)).e
      have HPLR := hid (show wr.heap[w1.heap.size]? = some (.cells #[.int .i64 mode, .int .i64 T, .int .i64 L] 29) from (hbr.block _ (cells_lt HPL10.out)).trans HPL10.out)
      have hlr := cells_lt HPLR.out
      clear hCr hup hjs hN hNk
      go_wp2_with fail
      refine HGET.out.mono ?_
      rintro e w11 ⟨rfl, hb11⟩
      go_wp2_with fail
      refine (HOBJS.out w11 hb11).mono ?_
      rintro e w12 ⟨ov, rfl, hown, hb12⟩
      obtain ⟨og, oc, rfl, _, _⟩ := row_some hown (by decide)
      have hbr12 := hb11.trans (hb12.mono hb11.size)
      have ob : ∀ j x, (ysC 0).obj[j]? = some x → w12.cell? ⟨og, j, none⟩ = some x := fun j x hj => by
        have hj6 : j < 6 := by
          rcases Nat.lt_or_ge j (ysC 0).obj.length with h | h
          · exact h
          · rw [List.getElem?_eq_none h] at hj; cases hj
        rw [hown.cellAt j (by omega)]; exact hj
      have b0 := ob 0 _ rfl
      have b1 := ob 1 _ rfl
      have b2 := ob 2 _ rfl
      have b3 := ob 3 _ rfl
      have b4 := ob 4 _ rfl
      have b5 := ob 5 _ rfl
      rw [hok0.1] at b0
      rw [hok0.2.1] at b1
      rw [hok0.2.2.1] at b2
      rw [hok0.2.2.2.1] at b3
      rw [hok0.2.2.2.2.1] at b4
      rw [hok0.2.2.2.2.2.1] at b5
      have g0 : w12.cell? ⟨w1.heap.size, 0, none⟩ = some (.int .i64 mode) := by rw [hbr12.cell (by exact hlr), cells_at HPLR.out]; rfl
      have g1 : w12.cell? ⟨w1.heap.size, 1, none⟩ = some (.int .i64 T) := by rw [hbr12.cell (by exact hlr), cells_at HPLR.out]; rfl
      have g2 : w12.cell? ⟨w1.heap.size, 2, none⟩ = some (.int .i64 L) := by rw [hbr12.cell (by exact hlr), cells_at HPLR.out]; rfl
      have hend : Below w.heap.size w w12 := (hb010.trans (hbr.mono hb010.size)).trans (hbr12.mono (by have := hb010.size; have := hbr.size; omega))
      have HEND := hid hend
      clear hok0 ob hown hend
      go_wp2_with fail
      go_quiet (fail)
      go_wp2_with fail
      go_ret
      exact ⟨rfl, below_drewN HEND.out nq⟩
end Go.Proofs.YtcegdgmbponapaaGreatDoor
