/-
  Refresh of what was split: either mode.
  cofferkeep.Survives.
-/
import Derived.Test.YtcegdgmbponapaaGreatDoorPart39
import Derived.Test.YtcegdgmbponapaaGreatDoorPart38
import Derived.Test.YtcegdgmbponapaaGreatDoorPart07
import Derived.BigQuiet
import Derived.Deep.DeepCutAuto
namespace Go.Proofs.YtcegdgmbponapaaGreatDoor
open Go.RowKit

theorem again_tape (x y : ByteArray) (h : y.size = x.size) : ∃ z : ByteArray, z.size = x.size ∧ ∀ k, z.data.toList.getD k 0 = x.data.toList.getD k 0 ^^^ y.data.toList.getD k 0 := by
  refine ⟨⟨(xorL x.data.toList y.data.toList).toArray⟩, xor_size x y, fun k => ?_⟩
  show (xorL x.data.toList y.data.toList).getD k 0 = _
  unfold xorL
  rw [List.getD_eq_getElem?_getD, List.getElem?_map]
  by_cases hk : k < x.data.toList.length
  · rw [List.getElem?_range hk]; rfl
  · have hk2 : y.data.toList.length ≤ k := by
      have e1 : y.data.toList.length = y.size := rfl
      have e2 : x.data.toList.length = x.size := rfl
      omega
    rw [List.getElem?_eq_none (by simpa using hk)]
    rw [List.getD_eq_getElem?_getD, List.getElem?_eq_none (by omega), List.getD_eq_getElem?_getD, List.getElem?_eq_none hk2]
    rfl

theorem One.again {w : World} {base V key n B bc : Nat} {sp : Nat → Nat} {mode t l r : Nat} {v x : ByteArray} {vs : Nat → Value} {xs : Nat → RecV} (h : One w base V key n B bc sp (fun _ => false) mode t l v.size (if mode = 0 then r else 0) ⟨#[107]⟩ (fun i => (Cof.split v.data.toList mode t l n x.data.toList).getD i []) vs xs)
    (C : Nat) (y : ByteArray) (hc : Cf w C V) (hp : IsPlan mode t l n) (hr : r < 100) (hz : v.size ≤ 60) (hk : key < 18446744073709551616) (hx : x.size = Cof.tsize mode t * Cof.ngroups mode t l v.size) (hy : y.size = Cof.tsize mode t * Cof.ngroups mode t l v.size) (hT : Tab w) (hg : ErrType w) :
    Calls Tryz.prog 17 #[.pointer (some ⟨C, 0, none⟩), .string ⟨#[107]⟩, .string y] w fun e w' =>
      e = .returned (.int .i64 (if mode = 0 then 0 else 11)) ∧ (∃ (x' : ByteArray) (ys : Nat → RecV), x'.size = Cof.tsize mode t * Cof.ngroups mode t l v.size ∧ One w' base V key n B bc sp (fun _ => false) mode t l v.size (if mode = 0 then r + 1 else 0) ⟨#[107]⟩ (fun i => (Cof.split v.data.toList mode t l n x'.data.toList).getD i []) vs ys) ∧ Spared (fun b => b = V ∨ ∃ i, i < n ∧ (vs i).ownBlock = some b) w w' := by
  by_cases hm : mode = 0
  · rw [if_pos hm] at h
    rw [if_pos hm, if_pos hm]
    have hng := ngroups_le hp v.size hz
    refine (crefresh_nil C V ⟨#[107]⟩ y w _ hc (vrefresh_ok base V key n B bc sp mode t l v.size r ⟨#[107]⟩ y _ vs xs w h hp hm hr hz (by decide) (by decide) hk hng (fun i hi => split_len hp _ _ i hi (by show _ ≤ x.size; exact Nat.le_of_eq hx.symm)) (Nat.le_of_eq hy.symm) hT)).mono ?_
    rintro e w' ⟨rfl, ⟨ys, hone, _⟩, hsp⟩
    obtain ⟨z, hzs, hzx⟩ := again_tape x y (by rw [hx, hy])
    refine ⟨rfl, ⟨z, ys, by rw [hzs, hx], ?_⟩, hsp⟩
    have hvl : v.data.toList.length = v.size := rfl
    refine hone.congr (fun i hi => ?_)
    rw [← hvl]
    exact split_sum mode t l n hp v.data.toList x.data.toList y.data.toList z.data.toList i hi (by rw [hvl]; exact hx) (by show y.size = x.size; rw [hx, hy]) hzs hzx
  · have hm1 : mode = 1 := by rcases hp.md with ⟨h, _⟩ | ⟨h, _⟩ <;> omega
    subst hm1
    rw [if_neg hm] at h
    rw [if_neg hm, if_neg hm]
    refine (h.refresh_mode C y hc hp hg).mono ?_
    rintro e w' ⟨rfl, hb⟩
    exact ⟨rfl, ⟨x, xs, hx, h.below hb⟩, Spared.ofBelow hb (Nat.le_refl _)⟩
end Go.Proofs.YtcegdgmbponapaaGreatDoor

namespace Go.Proofs.YtcegdgmbponapaaGreatDoor
open Go.RowKit
attribute [local go_sem ↓] Go.wp_at_zero Go.wp_at_succ

set_option maxRecDepth 100000 in
set_option maxHeartbeats 4000000 in
theorem survives_any (rn : Int) (key : Nat) (m t l : Int) (value : ByteArray) (aT : Option Addr) (nT cT : Nat) (tl : List ByteArray) (aS : Option Addr) (nS cS : Nat) (zs : List Int) (aB : Option Addr) (nB cB : Nat) (bz : List Int) (w : World) (hrn : I64 rn) (hm : I64 m) (ht : I64 t) (hl : I64 l) (hk : key < 18446744073709551616) (hT : Tab w) (hE : ErrType w) (_hvl : value.size ≤ maxLen)
    (eT : nT = tl.length) (_hTl : nT ≤ maxLen) (hTr : Rd w aT (tl.map Value.string)) (hTs : ∀ s ∈ tl, s.size ≤ maxLen) (eS : nS = zs.length) (hSl : nS ≤ maxLen) (hSr : Rd w aS (intsZ zs)) (hSz : ∀ z ∈ zs, I64 z) (eB : nB = bz.length) (_hBl : nB ≤ maxLen) (hBr : Rd w aB (intsZ bz)) (hBz : ∀ z ∈ bz, I64 z) :
    Calls Tryz.prog 5 #[.int .i64 rn, .int .u64 key, .agg #[.int .i64 m, .int .i64 t, .int .i64 l], .string value, .slice aT nT cT, .slice aS nS cS, .slice aB nB cB] w fun e w' => e = .returned (.bool true) ∧ Below w.heap.size w w' := by
  have hq8 := pickN_lt rn 8 (by omega)
  have HT := hid hT
  have HE := hid hE
  have HTR := hid (And.intro eT (And.intro hTr hTs))
  have HSR := hid (And.intro eS (And.intro hSr hSz))
  have HBR := hid (And.intro eB (And.intro hBr hBz))
  clear hT hE eT hTr hTs eS hSr hSz eB hBr hBz
  go_enter Tryz.func5, Tryz.ntmps5
  go_wp2_with fail
  refine (pick_any rn 8 _ hrn.1 hrn.2 (by omega) (by omega)).mono ?_
  rintro e w0 ⟨rfl, rfl⟩
  generalize pickN rn 8 = q at *
  obtain ⟨n, hn⟩ : ∃ n, n = 1 + q := ⟨_, rfl⟩
  have hni : 1 + (q : Int) = (n : Int) := by omega
  have hn1 : 1 ≤ n := by omega
  have hn8 : n ≤ 8 := by omega
  clear hn
  go_wp2_with fail
  refine (plan_any m t l n _ hm ht hl hn1 hn8).mono ?_
  rintro e w1 ⟨rfl, hb1⟩
  have hplan := plan_is m t l n hn1 hn8
  generalize pMode m = mode at *
  generalize pT t n = T at *
  generalize pL m t l n = L at *
  have hb01 : Below w.heap.size w w1 := ((Below.refl _ _).alloc (Nat.le_refl _) _).trans (hb1.mono (by simp))
  have hz01 : w.heap.size ≤ w1.heap.size := hb01.size
  clear hb1
  go_wp2_with fail
  refine (short_any value 60 _ (by omega)).mono ?_
  rintro e w2 ⟨rfl, hw2⟩
  have HPB := hid (show w2.heap[w1.heap.size]? = some (.cells #[.int .i64 mode, .int .i64 T, .int .i64 L] 29) by rw [hw2]; exact alloc_at _ _)
  have hb02 : Below w.heap.size w w2 := by rw [hw2]; exact hb01.alloc hb01.size _
  have hl2 := cells_lt HPB.out
  have HPL := hid (show ∀ w', Below w2.heap.size w2 w' → w'.cell? ⟨w1.heap.size, 0, none⟩ = some (.int .i64 mode) ∧ w'.cell? ⟨w1.heap.size, 1, none⟩ = some (.int .i64 T) ∧ w'.cell? ⟨w1.heap.size, 2, none⟩ = some (.int .i64 L) from fun w' hb => ⟨by rw [hb.cell (by exact hl2), cells_at HPB.out]; rfl, by rw [hb.cell (by exact hl2), cells_at HPB.out]; rfl, by rw [hb.cell (by exact hl2), cells_at HPB.out]; rfl⟩)
  have hv60 : (value.extract 0 60).size ≤ 60 := by simp; omega
  generalize value.extract 0 60 = v at *
  obtain ⟨p0, p1, p2⟩ := HPL.out w2 (Below.refl _ _)
  have hng := ngroups_le hplan v.size hv60
  have HTP := hid (fun (st : ByteArray) (hst : st.size ≤ maxLen) w' => tape_any st mode T L n v.size w' hplan hv60 hst)
  have HFC := hid (fun (sa : ByteArray) (hsa : sa.size = Cof.tsize mode T * Cof.ngroups mode T L v.size) w' => fresh_ok n key mode T L v sa w' hplan hv60 hng (Nat.le_of_eq hsa.symm) hk)
  clear hw2
  go_wp2_with fail
  go_region_held3 (fun w' => w'.cell? ⟨w1.heap.size, 0, none⟩ = some (.int .i64 mode) ∧ w'.cell? ⟨w1.heap.size, 1, none⟩ = some (.int .i64 T) ∧ w'.cell? ⟨w1.heap.size, 2, none⟩ = some (.int .i64 L)) (first | exact ⟨p0, p1, p2⟩ | exact D4.out | exact D3.out | go_keep)
    (first
      | (go_at_call 16; refine (HTP.out ⟨#[]⟩ (by decide) _).mono ?_; rintro e w3 ⟨sa, rfl, hsa, hb3⟩; (have hb23 : Below w2.heap.size w2 w3 := (Below.refl w2.heap.size w2).drew.trans hb3); (have D3 := hid (HPL.out w3 hb23)); (have HSA := hid hsa); clear hsa)
      | (go_at_call 15; refine (HFC.out sa HSA.out _).mono ?_; rintro e w4 ⟨C, V, B, bc, sp, vs, xs, rfl, hCf, hCl, hC, hb4⟩; (have hb24 : Below w2.heap.size w2 w4 := hb23.trans (hb4.mono hb23.size)); (have D4 := hid (HPL.out w4 hb24)); (have HCF := hid hCf); (have HC := hid hC); clear hCf hC))
  have hz23 := hb23.size
  have hz34 := hb4.size
  have hCh := HC.out.hi
  have hCs := HC.out
  have HOW := hid (show ∀ b, (b = V ∨ ∃ i, i < n ∧ (vs i).ownBlock = some b) → w3.heap.size ≤ b ∧ b < w4.heap.size from by
    rintro b (rfl | ⟨i, hi, hb⟩)
    · exact ⟨hCs.bV, hCh.1⟩
    · exact ⟨hCs.bv i hi b hb, hCh.2.2.2 i hi b hb⟩)
  have HP4 := hid (show w4.heap[w1.heap.size]? = some (.cells #[.int .i64 mode, .int .i64 T, .int .i64 L] 29) from by rw [hb24.block _ hl2]; exact HPB.out)
  have hb04 := hb02.trans (hb24.mono hb02.size)
  have HB04 := hid hb04
  have HCNE := hid (show ∀ w', Cf w' C V → (∃ s e xs', One w' w3.heap.size V key n B bc sp (fun _ => false) mode T L v.size e ⟨#[107]⟩ s vs xs') → ¬ (C = V ∨ ∃ i, i < n ∧ (vs i).ownBlock = some C) from by
    rintro w' hcf ⟨s, e, xs', ho⟩ (h | ⟨i, hi, hb⟩)
    · obtain ⟨dn, ah, hvt⟩ := ho.vt
      unfold Cf at hcf
      rw [h, hvt.hp] at hcf
      cases hcf
    · exact row_ne (ho.st i hi).row hcf (by decide) hb)
  clear hCh hCs hb04 p0 p1 p2
  go_wp2_with fail
  go_loopw [19] (fun u wr => ∃ (r : Nat) (x : ByteArray) (xs' : Nat → RecV), r ≤ 5 ∧ r ≤ nT ∧ u = .int .i64 r ∧ Spared (fun b => b = V ∨ ∃ i, i < n ∧ (vs i).ownBlock = some b) w4 wr ∧ x.size = sa.size ∧ Cf wr C V ∧ One wr w3.heap.size V key n B bc sp (fun _ => false) mode T L v.size (if mode = 0 then r else 0) ⟨#[107]⟩ (fun i => (Cof.split v.data.toList mode T L n x.data.toList).getD i []) vs xs') (fun u _ => 5 - (intOf u).toNat)
  case atStart => exact ⟨0, sa, xs, by omega, by omega, rfl, Spared.refl _ _, rfl, HCF.out, by rw [show (if mode = 0 then 0 else 0) = 0 by split <;> rfl]; exact HC.out⟩
  case round =>
    obtain ⟨r, x, xs', hr5, hrT, rfl, hsp, hxs, hcf, hone⟩ := hrel
    have HSPO := hid hsp
    have HXS := hid hxs
    have HCFO := hid hcf
    have HONE := hid hone
    have hb0r : Below w.heap.size w wr := HB04.out.trans (hsp.below w.heap.size HB04.out.size (fun b hb => by have := (HOW.out b hb).1; have := hb02.size; omega))
    have HB0R := hid hb0r
    have HPO := hid (show wr.heap[w1.heap.size]? = some (.cells #[.int .i64 mode, .int .i64 T, .int .i64 L] 29) from hsp.heap HP4.out (fun h => by have := HOW.out _ h; omega))
    have hlp := cells_lt HPO.out
    have HPLI := hid (show ∀ w', Below wr.heap.size wr w' → w'.cell? ⟨w1.heap.size, 0, none⟩ = some (.int .i64 mode) ∧ w'.cell? ⟨w1.heap.size, 1, none⟩ = some (.int .i64 T) ∧ w'.cell? ⟨w1.heap.size, 2, none⟩ = some (.int .i64 L) from fun w' hb => ⟨by rw [hb.cell (by exact hlp), cells_at HPO.out]; rfl, by rw [hb.cell (by exact hlp), cells_at HPO.out]; rfl, by rw [hb.cell (by exact hlp), cells_at HPO.out]; rfl⟩)
    clear hsp hxs hcf hone hb0r
    obtain ⟨cnd, hcnd⟩ : ∃ cnd : Bool, cnd = decide (r < nT ∧ r < 5) := ⟨_, rfl⟩
    have HCND := hid hcnd
    clear hcnd
    go_upto_region 8 with fail
    go_cut [64] (fun c wx => c = .bool cnd ∧ wx = wr)
    case first =>
      by_cases h1 : r < nT
      · have h1' : (r : Int) < (nT : Int) := by omega
        by_cases h2 : r < 5
        · have h2' : (r : Int) < (5 : Int) := by omega
          go_wp2_with fail
          go_meet
          case rel => exact ⟨by rw [HCND.out]; simp [h1, h2], rfl⟩
        · have h2' : ¬ (r : Int) < (5 : Int) := by omega
          go_wp2_with fail
          go_meet
          case rel => exact ⟨by rw [HCND.out]; simp [h2], rfl⟩
      · have h1' : ¬ (r : Int) < (nT : Int) := by omega
        go_wp2_with fail
        go_meet
        case rel => exact ⟨by rw [HCND.out]; simp [h1], rfl⟩
    case rest =>
      obtain ⟨hcv, hww⟩ := hcut
      subst hcv
      subst hww
      obtain ⟨wo, rfl⟩ : ∃ wo, wo = wc := ⟨_, rfl⟩
      cases cnd with
      | true =>
        have hgo : r < nT ∧ r < 5 := of_decide_eq_true HCND.out.symm
        obtain ⟨hrl, hr5'⟩ := hgo
        have hrl' : (r : Int) < (nT : Int) := by omega
        have hrtl : r < tl.length := by rw [← HTR.out.1]; exact hrl
        obtain ⟨bT, oT, rfl, hbT, hcT⟩ := HTR.out.2.1.pos (by rw [List.length_map]; omega)
        obtain ⟨st, hst⟩ : ∃ st, st = tl[r] := ⟨_, rfl⟩
        have hsts : st.size ≤ maxLen := by rw [hst]; exact HTR.out.2.2 _ (List.getElem_mem hrtl)
        have HCT := hid (show ∀ w', Below w.heap.size w w' → w'.cell? ⟨bT, oT + r, none⟩ = some (.string st) from fun w' hb => (hb.cell (by exact hbT)).trans (hcT r _ (by rw [List.getElem?_map, List.getElem?_eq_getElem hrtl, hst]; rfl)))
        have HRF := hid (fun w' (hb : Below wo.heap.size wo w') (hbw : Below w.heap.size w w') (y : ByteArray) hy => (HONE.out.below hb).again C y (HCFO.out.keeps (Spared.ofBelow (own := fun _ => False) hb (Nat.le_refl _)) (fun h => h)) hplan (by omega) hv60 hk (by rw [HXS.out]; exact HSA.out) hy (HT.out.keeps hbw (Nat.le_refl _)) (HE.out.keeps hbw (Nat.le_refl _)))
        have c0 := HCT.out _ HB0R.out
        obtain ⟨p0, p1, p2⟩ := HPLI.out _ (Below.refl _ _)
        clear hcT hst
        obtain ⟨gv, hgv⟩ : ∃ gv : Int, gv = if mode = 0 then 0 else 11 := ⟨_, rfl⟩
        rw [← hgv] at HRF
        have HGV := hid hgv
        clear hgv
        go_wp2_with fail
        go_region_held3 (fun w' => w'.cell? ⟨bT, oT + r, none⟩ = some (.string st) ∧ w'.cell? ⟨w1.heap.size, 0, none⟩ = some (.int .i64 mode) ∧ w'.cell? ⟨w1.heap.size, 1, none⟩ = some (.int .i64 T) ∧ w'.cell? ⟨w1.heap.size, 2, none⟩ = some (.int .i64 L)) (first | exact ⟨c0, p0, p1, p2⟩ | exact D14.out | exact D13.out | go_keep)
          (first
            | (go_at_call 16; refine (HTP.out st hsts _).mono ?_; rintro e w13 ⟨sb, rfl, hsb, hb13⟩; (have hb1213 : Below wo.heap.size wo w13 := (Below.refl wo.heap.size wo).drew.trans hb13); (have HBO13 := hid hb1213); (have HB013 := hid (HB0R.out.trans (hb1213.mono HB0R.out.size))); (have D13 := hid (And.intro (HCT.out _ HB013.out) (HPLI.out _ HBO13.out))); (have HSB := hid hsb); clear hsb)
            | (go_at_call 17; refine (HRF.out _ HBO13.out HB013.out sb HSB.out).mono ?_; rintro e w14 ⟨rfl, hx14, hs14⟩; (have HX14 := hid hx14); (have HS14 := hid hs14); (have D14 := hid (show w14.cell? ⟨bT, oT + r, none⟩ = some (.string st) ∧ w14.cell? ⟨w1.heap.size, 0, none⟩ = some (.int .i64 mode) ∧ w14.cell? ⟨w1.heap.size, 1, none⟩ = some (.int .i64 T) ∧ w14.cell? ⟨w1.heap.size, 2, none⟩ = some (.int .i64 L) from by
                have hne1 : ¬ (bT = V ∨ ∃ i, i < n ∧ (vs i).ownBlock = some bT) := fun h => by have := (HOW.out _ h).1; have := hb02.size; omega
                have hne2 : ¬ (w1.heap.size = V ∨ ∃ i, i < n ∧ (vs i).ownBlock = some w1.heap.size) := fun h => by have := (HOW.out _ h).1; omega
                have hl13 := HBO13.out.size
                have hl013 := HB013.out.size
                obtain ⟨d0, d1, d2, d3⟩ := D13.out
                exact ⟨(World.cell?_of_block (hs14.block bT (by omega) hne1)).trans d0, (World.cell?_of_block (hs14.block w1.heap.size (by omega) hne2)).trans d1, (World.cell?_of_block (hs14.block w1.heap.size (by omega) hne2)).trans d2, (World.cell?_of_block (hs14.block w1.heap.size (by omega) hne2)).trans d3⟩)); clear hx14 hs14))
        have p14 := D14.out.2.1
        have HNX := hid (show ∃ (x' : ByteArray) (ys : Nat → RecV), x'.size = sa.size ∧ Spared (fun b => b = V ∨ ∃ i, i < n ∧ (vs i).ownBlock = some b) w4 w14 ∧ Cf w14 C V ∧ One w14 w3.heap.size V key n B bc sp (fun _ => false) mode T L v.size (if mode = 0 then r + 1 else 0) ⟨#[107]⟩ (fun i => (Cof.split v.data.toList mode T L n x'.data.toList).getD i []) vs ys from by
          obtain ⟨x', ys, hx', hone'⟩ := HX14.out
          have hcf13 : Cf w13 C V := HCFO.out.keeps (Spared.ofBelow (own := fun _ => False) HBO13.out (Nat.le_refl _)) (fun h => h)
          exact ⟨x', ys, by rw [hx']; exact HSA.out.symm, (HSPO.out.trans (Spared.ofBelow HBO13.out (Nat.le_refl _))).trans HS14.out, hcf13.keeps HS14.out (HCNE.out w13 hcf13 ⟨_, _, _, HONE.out.below HBO13.out⟩), hone'⟩)
        rcases Nat.eq_zero_or_pos mode with hm0 | hm0
        · have hg0 : gv = 0 := by rw [HGV.out, hm0]; rfl
          have hb0 : ((mode : Int) == 0) = true := by simp [hm0]
          have hb1 : ((mode : Int) != 0) = false := by simp [hm0]
          subst hg0
          clear hm0
          go_wp2_with fail
          go_roundw
          case rel =>
            obtain ⟨x', ys, a1, a2, a3, a4⟩ := HNX.out
            exact ⟨r + 1, x', ys, by omega, by omega, by rw [Int.natCast_add]; rfl, a2, a1, a3, a4⟩
          case measure => simp [intOf]; omega
        · have hg0 : gv = 11 := by rw [HGV.out]; simp; omega
          have hb0 : ((mode : Int) == 0) = false := by simp; omega
          have hb1 : ((mode : Int) != 0) = true := by simp; omega
          subst hg0
          clear hm0
          go_wp2_with fail
          go_roundw
          case rel =>
            obtain ⟨x', ys, a1, a2, a3, a4⟩ := HNX.out
            exact ⟨r + 1, x', ys, by omega, by omega, by rw [Int.natCast_add]; rfl, a2, a1, a3, a4⟩
          case measure => simp [intOf]; omega
      | false =>
        have HPL1 := hid (show ∀ i, i < n → ((Cof.split v.data.toList mode T L n x.data.toList).getD i []).length = Cof.ngroups mode T L v.size from fun i hi => split_len hplan _ _ i hi (by show _ ≤ x.size; rw [HXS.out]; exact Nat.le_of_eq HSA.out.symm))
        obtain ⟨ep, hep⟩ : ∃ ep, ep = if mode = 0 then r else 0 := ⟨_, rfl⟩
        have hep100 : ep ≤ 100 := by rw [hep]; split <;> omega
        rw [← hep] at HONE
        obtain ⟨p0, p1, p2⟩ := HPLI.out _ (Below.refl _ _)
        obtain ⟨N, hN⟩ : ∃ N, N = Cof.gsize mode T L + Cof.tsize mode T := ⟨_, rfl⟩
        have hNn : N ≤ n := by
          obtain ⟨_, _, _, _, _, h6⟩ := hplan
          rw [hN]; unfold Cof.gsize Cof.tsize
          rcases h6 with ⟨rfl, h6⟩ | ⟨rfl, h6⟩ <;> simp <;> omega
        have hN1 : 1 ≤ N := by have := (gsize_le hplan).1; omega
        have HTH := hid (fun w' => keepThr_any mode T L n w' hplan)
        rw [← hN] at HTH
        have HN := hid hN
        have HCH := hid (fun w' (hb : Below w.heap.size w w') => chosen_any aS nS cS n N zs w' HSR.out.1 (HSR.out.2.1.below hb (Nat.le_refl _)) HSR.out.2.2 (by unfold maxLen at hSl; omega) hn1 hn8 hNn)
        clear hN hep
        go_wp2_with fail
        refine (HTH.out _).mono ?_
        rintro e w6 ⟨rfl, hb6⟩
        have hb06 := HB0R.out.trans (hb6.mono HB0R.out.size)
        have HB06 := hid hb06
        go_wp2_with fail
        refine (HCH.out _ HB06.out).mono ?_
        rintro e w8 ⟨vc, ss, rfl, hsl, hnd, hlts, hown8, hb8⟩
        obtain ⟨aC, cC, rfl, hrC⟩ := owns_any_rd hown8
        have hbo8 : Below wo.heap.size wo w8 := hb6.trans (hb8.mono hb6.size)
        have hb08 : Below w.heap.size w w8 := HB0R.out.trans (hbo8.mono HB0R.out.size)
        have ho8 := HONE.out.below hbo8
        have hcf8 : Cf w8 C V := HCFO.out.keeps (Spared.ofBelow (own := fun _ => False) hbo8 (Nat.le_refl _)) (fun h => h)
        have HB08 := hid hb08
        have HSS := hid (And.intro hsl (And.intro hnd hlts))
        -- which blocks the stores and their shards have
        have HOW2 := hid (show ∀ b, ((∃ i, i < n ∧ b = sp i) ∨ ∃ i, i < n ∧ (xs' i).blk = some b) → w3.heap.size ≤ b ∧ b < wo.heap.size from by
          rintro b (⟨i, hi, rfl⟩ | ⟨i, hi, hb⟩)
          · exact ⟨HONE.out.bsp i hi, HONE.out.hi.2.2.1 i hi⟩
          · exact HONE.out.lo i hi b hb)
        have HFW := hid (show ∀ w', Spared (fun b => (∃ i, i < n ∧ b = sp i) ∨ ∃ i, i < n ∧ (xs' i).blk = some b) w8 w' → Cf w' C V ∧ Rd w' aC (ints ss) ∧ Below w.heap.size w w' from fun w' hs => by
          refine ⟨hcf8.keeps hs ?_, ?_, hb08.trans (hs.below w.heap.size hb08.size (fun b hb => by have := (HOW2.out b hb).1; have := hb02.size; omega))⟩
          · rintro (⟨i, hi, h⟩ | ⟨i, hi, h⟩)
            · have h1 := (ho8.st i hi).hp
              unfold Cf at hcf8
              rw [← h, hcf8] at h1
              cases h1
            · exact row_ne (ho8.ok i hi).own hcf8 (by decide) h
          · have h9 := owns_spared hown8 hs (fun b hb h => by have h1 := (HOW2.out _ h).2; have h2 := (hown8.lt b hb).1; have := hb6.size; omega)
            obtain ⟨a', c', e1, e2⟩ := owns_any_rd h9
            cases e1
            exact e2)
        obtain ⟨R, hR⟩ : ∃ R : World → (Nat → Bool) → (Nat → List UInt8) → Prop, R = fun w' down X => Spared (fun b => (∃ i, i < n ∧ b = sp i) ∨ ∃ i, i < n ∧ (xs' i).blk = some b) w8 w' ∧ Held w' w3.heap.size V key n B bc sp down mode T L v.size ep ⟨#[107]⟩ (Cof.ngroups mode T L v.size) X vs xs' := ⟨_, rfl⟩
        obtain ⟨S, hS⟩ : ∃ S : Nat → List UInt8, S = madeX key mode T L n ep v.size ⟨#[107]⟩ (fun i => (Cof.split v.data.toList mode T L n x.data.toList).getD i []) := ⟨_, rfl⟩
        obtain ⟨LX, hLX⟩ : ∃ LX, LX = 10 + (⟨#[107]⟩ : ByteArray).size + Cof.ngroups mode T L v.size + 8 := ⟨_, rfl⟩
        have hk1 : (⟨#[107]⟩ : ByteArray).size = 1 := rfl
        have hLX1 : 19 ≤ LX := by omega
        have hLX2 : LX ≤ 200 := by omega
        have HRB := hid (show ∀ w' w'' down X, R w' down X → Below w'.heap.size w' w'' → R w'' down X from by
          intro w' w'' down X h hb
          simp only [hR] at h ⊢
          exact ⟨h.1.trans (Spared.ofBelow hb (Nat.le_refl _)), h.2.below hb⟩)
        have HUP := hid (show ∀ w' down X i, R w' down X → i < n → Calls Tryz.prog 21 #[.pointer (some ⟨C, 0, none⟩), .int .i64 i, .bool false] w' fun e w'' => e = .returned (.int .i64 0) ∧ R w'' (fun j => if j = i then !false else down j) X from by
          intro w' down X i h hi
          simp only [hR] at h ⊢
          refine (h.2.up C i false (HFW.out w' h.1).1 hn1 hn8 hi).mono ?_
          rintro e w'' ⟨he, h3, h4⟩
          exact ⟨he, h.1.trans (h4.mono fun b hb => .inl ⟨i, hi, hb⟩), h3⟩)
        have HSPL := hid (show ∀ w' down X i p (d : UInt8), R w' down X → i < n → p < LX → Calls Tryz.prog 23 #[.pointer (some ⟨C, 0, none⟩), .int .i64 i, .string ⟨#[107]⟩, .int .i64 p, .int .u8 d.toNat] w' fun e w'' => e = .returned (.int .i64 0) ∧ R w'' down (fun j => if j = i then Cof.spoil (X i) p d else X j) from by
          intro w' down X i p d h hi hp
          simp only [hR] at h ⊢
          refine (h.2.spoil C i p d (HFW.out w' h.1).1 hn1 hn8 hi (by decide) hng (by omega)).mono ?_
          rintro e w'' ⟨he, h3, h4⟩
          exact ⟨he, h.1.trans (h4.mono fun b hb => .inr ⟨i, hi, hb⟩), h3⟩)
        have HSHD := hid (show ∀ w' down X i, R w' down X → i < n → Calls Tryz.prog 22 #[.pointer (some ⟨C, 0, none⟩), .int .i64 i, .string ⟨#[107]⟩] w' fun e w'' => e = .returned (.tuple #[.string ⟨(X i).toArray⟩, .int .i64 0]) ∧ R w'' down X from by
          intro w' down X i h hi
          have h0 := h
          simp only [hR] at h
          refine (h.2.shard C i (HFW.out w' h.1).1 hn1 hn8 hi).mono ?_
          rintro e w'' ⟨he, h3⟩
          exact ⟨he, HRB.out _ _ _ _ h0 h3⟩)
        have HLEN := hid (show ∀ w' down X, R w' down X → ∀ i, i < n → (X i).length = LX from by
          intro w' down X h i hi
          simp only [hR] at h
          rw [hLX]
          exact h.2.bytes i hi)
        have HFACT := hid (show ∀ w' down X, R w' down X → Rd w' aC (ints ss) ∧ Below w.heap.size w w' from by
          intro w' down X h
          simp only [hR] at h
          exact (HFW.out w' h.1).2)
        have HGET := hid (show ∀ w' down X, R w' down X → Worn S X down ss LX n n → Calls Tryz.prog 24 #[.pointer (some ⟨C, 0, none⟩), .string ⟨#[107]⟩] w' fun e w'' => e = .returned (.tuple #[.string v, .int .i64 0]) ∧ R w'' down X from by
          intro w' down X h hw
          have h0 := h
          simp only [hR] at h
          rw [hS, hLX] at hw
          have hf := HFW.out w' h.1
          refine (hw.get h.2 C hf.1 hplan hep100 hv60 (by decide) (by decide) hk hng HPL1.out (by rw [HXS.out]; exact HSA.out) (HT.out.keeps hf.2.2 (Nat.le_refl _)) hnd hlts (by rw [hsl]; exact HN.out)).mono ?_
          rintro e w'' ⟨he, h3⟩
          exact ⟨he, HRB.out _ _ _ _ h0 h3⟩)
        have HFEW := hid (show ∀ w' down X bad s rest, ss = s :: rest → R w' down X → Judged key mode T L n ep v.size ⟨#[107]⟩ (Cof.ngroups mode T L v.size) down bad X (fun i => (Cof.split v.data.toList mode T L n x.data.toList).getD i []) → (∀ i, i < n → (down i || bad i) = (!decide (i ∈ s :: rest) || decide (i = s))) → Calls Tryz.prog 24 #[.pointer (some ⟨C, 0, none⟩), .string ⟨#[107]⟩] w' fun e w'' => e = .returned (.tuple #[.string ByteArray.empty, .int .i64 10]) ∧ R w'' down X from by
          intro w' down X bad s rest hss h hj hoff
          have h0 := h
          simp only [hR] at h
          have hf := HFW.out w' h.1
          refine (hj.few (s := s) (ss := rest) h.2 C hf.1 hplan hep100 hv60 (by decide) (by decide) hk hng (HT.out.keeps hf.2.2 (Nat.le_refl _)) (HE.out.keeps hf.2.2 (Nat.le_refl _)) (by rw [← hss]; exact hnd) (by rw [← hss]; exact hlts) (by rw [← hss, hsl]; exact HN.out) hoff).mono ?_
          rintro e w'' ⟨he, h3⟩
          exact ⟨he, HRB.out _ _ _ _ h0 h3⟩)
        have HST0 := hid (show R w8 (fun _ => false) S from by
          simp only [hR, hS]
          exact ⟨Spared.refl _ _, ho8.held _ HPL1.out⟩)
        have HJ1 := hid (show ∀ X down, Worn S X down ss LX n n → Judged key mode T L n ep v.size ⟨#[107]⟩ (Cof.ngroups mode T L v.size) down (fun i => !decide (i ∈ ss)) X (fun i => (Cof.split v.data.toList mode T L n x.data.toList).getD i []) from by
          intro X down hw
          rw [hS, hLX] at hw
          exact hw.judged hk HPL1.out)
        have HJ2 := hid (show ∀ X down s p (d : UInt8), Worn S X down ss LX n n → s ∈ ss → s < n → p < LX → d ≠ 0 → Judged key mode T L n ep v.size ⟨#[107]⟩ (Cof.ngroups mode T L v.size) down (fun i => !decide (i ∈ ss) || decide (i = s)) (fun i => if i = s then Cof.spoil (X s) p d else X i) (fun i => (Cof.split v.data.toList mode T L n x.data.toList).getD i []) from by
          intro X down s p d hw hs hsn hp hd
          rw [hS, hLX] at hw
          rw [hLX] at hp
          exact hw.judged2 hk HPL1.out s p d hs hsn hp hd)
        have HSL := hid hsl
        clear hR hS hLX ho8 hcf8 hown8 hrC hb6 hb8 hbo8 hb06 hb08 hsl hnd hlts p0 p1 p2
        go_wp2_with fail
        go_loopw [23] (fun u wr => ∃ (j : Nat) (down : Nat → Bool) (X : Nat → List UInt8), j ≤ n ∧ u = .int .i64 j ∧ R wr down X ∧ Worn S X down ss LX n j) (fun u _ => n - (intOf u).toNat)
        case atStart => exact ⟨0, _, S, Nat.zero_le _, rfl, HST0.out, Worn.start S ss LX n⟩
        case round =>
          obtain ⟨j, down, X, hjn, rfl, hr, hwn⟩ := hrel
          by_cases hlt : j < n
          · have hlt' : (j : Int) < (n : Int) := by omega
            have HR := hid hr
            have HWN := hid hwn
            clear hr hwn
            by_cases hin : j ∈ ss
            · have HIN := hid (in_yes aC N cC j ss wr HSL.out.symm (HFACT.out wr down X HR.out).1 (by omega) hin)
              have HNI := hid hin
              clear hin
              go_wp2_with (go_at_call 20; refine HIN.out.mono ?_; rintro e w9 ⟨rfl, rfl⟩)
              exact ⟨⟨j + 1, down, X, by omega, by rw [Int.natCast_add]; rfl, HR.out, HWN.out.pass HNI.out⟩, by simp [intOf]; omega⟩
            · have HIN := hid (in_no aC N cC j ss wr HSL.out.symm (HFACT.out wr down X HR.out).1 (by omega) hin)
              have HNI := hid hin
              clear hin
              by_cases hjb : j < nB
              · have hjb' : (j : Int) < (nB : Int) := by omega
                have hjbl : j < bz.length := by rw [← HBR.out.1]; exact hjb
                obtain ⟨bB, oB, rfl, hbB, hcB⟩ := HBR.out.2.1.pos (by simp [intsZ]; omega)
                obtain ⟨z, hz⟩ : ∃ z, z = bz[j] := ⟨_, rfl⟩
                have hzI : I64 z := by rw [hz]; exact HBR.out.2.2 _ (List.getElem_mem hjbl)
                have cz : wr.cell? ⟨bB, oB + j, none⟩ = some (.int .i64 z) := ((HFACT.out wr down X HR.out).2.cell (by exact hbB)).trans (by rw [hz]; exact hcB j _ (intsZ_get bz j hjbl))
                clear hz hcB
                by_cases hz2 : Int.tmod z 2 = 0
                · have hz2' : (Int.tmod z 2 == 0) = true := by simp [hz2]
                  have HU := hid (HUP.out wr down X j HR.out hlt)
                  go_wp2_with (first | (go_at_call 20; refine HIN.out.mono ?_; rintro e w9 ⟨rfl, rfl⟩) | (go_at_call 21; refine HU.out.mono ?_; rintro e w10 ⟨rfl, hr10⟩))
                  exact ⟨⟨j + 1, _, X, by omega, by rw [Int.natCast_add]; rfl, hr10, HWN.out.sink HNI.out⟩, by simp [intOf]; omega⟩
                · have hz2' : (Int.tmod z 2 == 0) = false := by simp [hz2]
                  have HSH := hid (HSHD.out wr down X j HR.out hlt)
                  have hXl := HLEN.out wr down X HR.out j hlt
                  obtain ⟨sB, hsB⟩ : ∃ sB : ByteArray, sB = ⟨(X j).toArray⟩ := ⟨_, rfl⟩
                  rw [← hsB] at HSH
                  have hsz : sB.size = LX := by rw [hsB, ← hXl]; show (X j).toArray.size = _; simp
                  have hpp := pickN_lt z sB.size (by omega)
                  have HPP := hid (fun w' => pick_any z sB.size w' hzI.1 hzI.2 (by omega) (by omega))
                  have hpd := pickN_lt z 255 (by omega)
                  have HPD := hid (fun w' => pick_any z 255 w' hzI.1 hzI.2 (by omega) (by omega))
                  generalize pickN z sB.size = pp at *
                  generalize pickN z 255 = pd at *
                  have hdn : (UInt8.ofNat (pd + 1)).toNat = pd + 1 := by rw [UInt8.toNat_ofNat']; omega
                  have hdz : UInt8.ofNat (pd + 1) ≠ 0 := fun h => by rw [h] at hdn; simp at hdn
                  have HDZ := hid hdz
                  have HSP := hid (fun w' (h : R w' down X) => HSPL.out w' down X j pp (UInt8.ofNat (pd + 1)) h hlt (by omega))
                  rw [hdn, show ((pd + 1 : Nat) : Int) = 1 + (pd : Int) by omega] at HSP
                  have hsn0 : ((sB.size : Int) == 0) = false := by rw [beq_eq_false_iff_ne]; omega
                  have hpp' : pp < LX := by omega
                  have HSZ := hid hsz
                  clear hsB hXl hdn hdz hsz
                  go_wp2_with (go_at_call 20; refine HIN.out.mono ?_; rintro e w9 ⟨rfl, rfl⟩)
                  refine HSH.out.mono ?_
                  rintro e w10 ⟨rfl, hr10⟩
                  have HR10 := hid hr10
                  clear hr10
                  go_wp2_with fail
                  refine (HPP.out _).mono ?_
                  rintro e w11 ⟨rfl, rfl⟩
                  go_wp2_with fail
                  refine (HPD.out _).mono ?_
                  rintro e w12 ⟨rfl, rfl⟩
                  go_wp2_with fail
                  refine (HSP.out _ HR10.out).mono ?_
                  rintro e w13 ⟨rfl, hr13⟩
                  have HR13 := hid hr13
                  clear hr13
                  go_wp2_with fail
                  exact ⟨⟨j + 1, down, _, by omega, by rw [Int.natCast_add]; rfl, HR13.out, HWN.out.spot HNI.out hlt pp _ hpp' HDZ.out⟩, by simp [intOf]; omega⟩
              · have hjb' : ¬ (j : Int) < (nB : Int) := by omega
                have hz0 : I64 0 := by unfold I64; omega
                have HSH := hid (HSHD.out wr down X j HR.out hlt)
                have hXl := HLEN.out wr down X HR.out j hlt
                obtain ⟨sB, hsB⟩ : ∃ sB : ByteArray, sB = ⟨(X j).toArray⟩ := ⟨_, rfl⟩
                rw [← hsB] at HSH
                have hsz : sB.size = LX := by rw [hsB, ← hXl]; show (X j).toArray.size = _; simp
                have hpp := pickN_lt 0 sB.size (by omega)
                have HPP := hid (fun w' => pick_any 0 sB.size w' hz0.1 hz0.2 (by omega) (by omega))
                have hpd := pickN_lt 0 255 (by omega)
                have HPD := hid (fun w' => pick_any 0 255 w' hz0.1 hz0.2 (by omega) (by omega))
                generalize pickN 0 sB.size = pp at *
                generalize pickN 0 255 = pd at *
                have hdn : (UInt8.ofNat (pd + 1)).toNat = pd + 1 := by rw [UInt8.toNat_ofNat']; omega
                have hdz : UInt8.ofNat (pd + 1) ≠ 0 := fun h => by rw [h] at hdn; simp at hdn
                have HDZ := hid hdz
                have HSP := hid (fun w' (h : R w' down X) => HSPL.out w' down X j pp (UInt8.ofNat (pd + 1)) h hlt (by omega))
                rw [hdn, show ((pd + 1 : Nat) : Int) = 1 + (pd : Int) by omega] at HSP
                have hsn0 : ((sB.size : Int) == 0) = false := by rw [beq_eq_false_iff_ne]; omega
                have hpp' : pp < LX := by omega
                have HSZ := hid hsz
                clear hsB hXl hdn hdz hsz
                go_wp2_with (go_at_call 20; refine HIN.out.mono ?_; rintro e w9 ⟨rfl, rfl⟩)
                refine HSH.out.mono ?_
                rintro e w10 ⟨rfl, hr10⟩
                have HR10 := hid hr10
                clear hr10
                go_wp2_with fail
                refine (HPP.out _).mono ?_
                rintro e w11 ⟨rfl, rfl⟩
                go_wp2_with fail
                refine (HPD.out _).mono ?_
                rintro e w12 ⟨rfl, rfl⟩
                go_wp2_with fail
                refine (HSP.out _ HR10.out).mono ?_
                rintro e w13 ⟨rfl, hr13⟩
                have HR13 := hid hr13
                clear hr13
                go_wp2_with fail
                exact ⟨⟨j + 1, down, _, by omega, by rw [Int.natCast_add]; rfl, HR13.out, HWN.out.spot HNI.out hlt pp _ hpp' HDZ.out⟩, by simp [intOf]; omega⟩
          · have hjj : j = n := by omega
            have hlt' : ¬ (j : Int) < (n : Int) := by omega
            rw [hjj] at hwn
            have HR := hid hr
            have HWN := hid hwn
            clear hr hwn
            obtain ⟨s0, rest, hss⟩ : ∃ s0 rest, ss = s0 :: rest := by
              cases ss with
              | nil => have := HSL.out; simp at this; omega
              | cons a b => exact ⟨a, b, rfl⟩
            have hs0 : s0 ∈ ss := by rw [hss]; exact List.mem_cons_self ..
            have hs0n : s0 < n := HSS.out.2.2 s0 hs0
            have HSS0 := hid hss
            have HS0 := hid hs0
            obtain ⟨bC, oC, rfl, hbC, hcC⟩ := (HFACT.out wr down X HR.out).1.pos (by simp [ints]; have := HSL.out; omega)
            have HC0 := hid (show ∀ w' down X, R w' down X → w'.cell? ⟨bC, oC, none⟩ = some (.int .i64 s0) from by
              intro w' down X h
              obtain ⟨b', o', e1, _, e3⟩ := (HFACT.out w' down X h).1.pos (by simp [ints]; have := HSL.out; omega)
              cases e1
              have h4 := e3 0 (.int .i64 s0) (by rw [HSS0.out]; rfl)
              simpa using h4)
            clear hss hs0 hcC
            go_wp2_with fail
            refine (HGET.out wr down X HR.out HWN.out).mono ?_
            rintro e w20 ⟨rfl, hr20⟩
            have HR20 := hid hr20
            have c20 := HC0.out w20 down X hr20
            clear hr20
            have HSH := hid (HSHD.out w20 down X s0 HR20.out hs0n)
            have hXl := HLEN.out wr down X HR.out s0 hs0n
            obtain ⟨sB, hsB⟩ : ∃ sB : ByteArray, sB = ⟨(X s0).toArray⟩ := ⟨_, rfl⟩
            rw [← hsB] at HSH
            have hsz : sB.size = LX := by rw [hsB, ← hXl]; show (X s0).toArray.size = _; simp
            have hs19 : ¬ (sB.size : Int) < 19 := by omega
            have hs200 : sB.size ≤ 200 := by omega
            have hs1 : 0 < sB.size := by omega
            have HSZ := hid hsz
            clear hsB hXl hsz
            go_wp2_with fail
            refine HSH.out.mono ?_
            rintro e w21 ⟨rfl, hr21⟩
            have HR21 := hid hr21
            have c21 := HC0.out w21 down X hr21
            clear hr21
            go_wp2_with fail
            obtain ⟨zq, hzq⟩ : ∃ zq : Int, zq = wrap64 (wrap64 ((nB : Int) * 31) + (value.size : Int)) := ⟨_, rfl⟩
            have hzI : I64 zq := by rw [hzq]; generalize wrap64 ((nB : Int) * 31) + (value.size : Int) = y; unfold wrap64 I64; omega
            rw [← hzq]
            have hpp := pickN_lt zq sB.size hs1
            refine (pick_any zq sB.size _ hzI.1 hzI.2 hs1 (by omega)).mono ?_
            rintro e w22 ⟨rfl, rfl⟩
            generalize pickN zq sB.size = pp at *
            have hpp' : pp < LX := by rw [← HSZ.out]; exact hpp
            have HSP := hid (fun w' X' (h : R w' down X') => HSPL.out w' down X' s0 pp (64 : UInt8) h hs0n hpp')
            rw [show ((UInt8.toNat 64 : Nat) : Int) = 64 from rfl] at HSP
            clear hzq hzI
            go_wp2_with fail
            refine (HSP.out _ X HR21.out).mono ?_
            rintro e w23 ⟨rfl, hr23⟩
            have HR23 := hid hr23
            have c23 := HC0.out w23 _ _ hr23
            clear hr23
            have HF1 := hid (HFEW.out w23 down _ _ s0 rest HSS0.out HR23.out (HJ2.out X down s0 pp 64 HWN.out HS0.out hs0n hpp' (by decide)) (fun i hi => by
              rw [← HSS0.out]
              have := HWN.out.off i hi
              rw [← Bool.or_assoc, this]))
            go_wp2_with fail
            refine HF1.out.mono ?_
            rintro e w24 ⟨rfl, hr24⟩
            have HR24 := hid hr24
            have c24 := HC0.out w24 _ _ hr24
            clear hr24
            go_wp2_with fail
            refine (HSP.out _ _ HR24.out).mono ?_
            rintro e w25 ⟨rfl, hr25⟩
            have HR25 := hid (show R w25 down X from by
              have hXX : (fun j => if j = s0 then Cof.spoil ((fun j => if j = s0 then Cof.spoil (X s0) pp 64 else X j) s0) pp 64 else (fun j => if j = s0 then Cof.spoil (X s0) pp 64 else X j) j) = X := by
                funext i
                by_cases hi : i = s0
                · subst hi
                  simp only [if_true]
                  exact Cof.spoil_twice _ _ _ (by rw [HLEN.out wr down X HR.out i hs0n]; exact hpp')
                · simp only [hi, if_false]
              rw [hXX] at hr25
              exact hr25)
            have c25 := HC0.out w25 _ _ hr25
            clear hr25
            have HG2 := hid (HGET.out w25 down X HR25.out HWN.out)
            go_wp2_with fail
            refine HG2.out.mono ?_
            rintro e w26 ⟨rfl, hr26⟩
            have HR26 := hid hr26
            have c26 := HC0.out w26 _ _ hr26
            clear hr26
            have HU := hid (HUP.out w26 down X s0 HR26.out hs0n)
            go_wp2_with fail
            refine HU.out.mono ?_
            rintro e w27 ⟨rfl, hr27⟩
            have HR27 := hid hr27
            clear hr27
            have HF2 := hid (HFEW.out w27 _ X _ s0 rest HSS0.out HR27.out ((HJ1.out X down HWN.out).sink s0) (fun i hi => by
              rw [← HSS0.out]
              by_cases his : i = s0
              · subst his
                simp
              · have := HWN.out.off i hi
                simp only [his, if_false, decide_false, Bool.or_false]
                exact this))
            go_wp2_with fail
            refine HF2.out.mono ?_
            rintro e w28 ⟨rfl, hr28⟩
            have HB28 := hid (HFACT.out w28 _ _ hr28).2
            clear hr28
            go_wp2_with fail
            go_ret
            exact ⟨by simp, HB28.out⟩
end Go.Proofs.YtcegdgmbponapaaGreatDoor
