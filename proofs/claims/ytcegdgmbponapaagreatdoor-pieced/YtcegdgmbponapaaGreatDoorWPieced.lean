/-
  cofferkeep.Pieced.
-/
import Derived.Test.YtcegdgmbponapaaGreatDoorPart37
import Derived.Test.YtcegdgmbponapaaGreatDoorPart38
import Derived.Test.YtcegdgmbponapaaGreatDoorPart07
import Derived.BigQuiet
namespace Go.Proofs.YtcegdgmbponapaaGreatDoor
open Go.RowKit
attribute [local go_sem ↓] Go.wp_at_zero Go.wp_at_succ

set_option maxRecDepth 100000 in
set_option maxHeartbeats 4000000 in
theorem pieced_any (rn : Int) (key : Nat) (m t l : Int) (value rawT : ByteArray) (aT : Option Addr) (nT cT : Nat) (tl : List ByteArray) (aS : Option Addr) (nS cS : Nat) (zs : List Int) (more : Int) (w : World) (hrn : I64 rn) (hm : I64 m) (ht : I64 t) (hl : I64 l) (hk : key < 18446744073709551616) (h1 : rawT.size ≤ maxLen) (hT : Tab w) (hE : ErrType w)
    (eT : nT = tl.length) (_hTl : nT ≤ maxLen) (hTr : Rd w aT (tl.map Value.string)) (hTs : ∀ s ∈ tl, s.size ≤ maxLen) (eS : nS = zs.length) (hSl : nS ≤ maxLen) (hSr : Rd w aS (intsZ zs)) (hSz : ∀ z ∈ zs, I64 z) (hmo : I64 more) :
    Calls Tryz.prog 7 #[.int .i64 rn, .int .u64 key, .agg #[.int .i64 m, .int .i64 t, .int .i64 l], .string value, .string rawT, .slice aT nT cT, .slice aS nS cS, .int .i64 more] w fun e w' => e = .returned (.bool true) ∧ Below w.heap.size w w' := by
  obtain ⟨i0, hi, hz0, hz1, hz2⟩ := info_parts Tryz.infoPiece
  have hq8 := pickN_lt rn 8 (by omega)
  have HT := hid hT
  have HE := hid hE
  have HTR := hid (And.intro eT (And.intro hTr hTs))
  have HSR := hid (And.intro eS (And.intro hSr hSz))
  clear hT hE eT hTr hTs eS hSr hSz
  go_enter Tryz.func7, Tryz.ntmps7
  go_wp2_with fail
  refine (pick_any rn 8 _ hrn.1 hrn.2 (by omega) (by omega)).mono ?_
  rintro e w0 ⟨rfl, rfl⟩
  generalize pickN rn 8 = q at *
  obtain ⟨n, hn⟩ : ∃ n, n = 1 + q := ⟨_, rfl⟩
  have hni : 1 + (q : Int) = (n : Int) := by omega
  have hn1 : 1 ≤ n := by omega
  have hn8 : n ≤ 8 := by omega
  clear hn
  go_wp2_with fail
  refine (plan_any m t l n _ hm ht hl hn1 hn8).mono ?_
  rintro e w1 ⟨rfl, hb1⟩
  have hplan := plan_is m t l n hn1 hn8
  generalize pMode m = mode at *
  generalize pT t n = T at *
  generalize pL m t l n = L at *
  have hb01 : Below w.heap.size w w1 := ((Below.refl _ _).alloc (Nat.le_refl _) _).trans (hb1.mono (by simp))
  have hz01 : w.heap.size ≤ w1.heap.size := hb01.size
  clear hb1
  go_wp2_with fail
  refine (short_any value 60 _ (by omega)).mono ?_
  rintro e w2 ⟨rfl, hw2⟩
  have HPB := hid (show w2.heap[w1.heap.size]? = some (.cells #[.int .i64 mode, .int .i64 T, .int .i64 L] 29) by rw [hw2]; exact alloc_at _ _)
  have hb02 : Below w.heap.size w w2 := by rw [hw2]; exact hb01.alloc hb01.size _
  have hl2 := cells_lt HPB.out
  have HPL := hid (show ∀ w', Below w2.heap.size w2 w' → w'.cell? ⟨w1.heap.size, 0, none⟩ = some (.int .i64 mode) ∧ w'.cell? ⟨w1.heap.size, 1, none⟩ = some (.int .i64 T) ∧ w'.cell? ⟨w1.heap.size, 2, none⟩ = some (.int .i64 L) from fun w' hb => ⟨by rw [hb.cell (by exact hl2), cells_at HPB.out]; rfl, by rw [hb.cell (by exact hl2), cells_at HPB.out]; rfl, by rw [hb.cell (by exact hl2), cells_at HPB.out]; rfl⟩)
  have hv60 : (value.extract 0 60).size ≤ 60 := by simp; omega
  generalize value.extract 0 60 = v at *
  obtain ⟨p0, p1, p2⟩ := HPL.out w2 (Below.refl _ _)
  have hng := ngroups_le hplan v.size hv60
  clear hw2
  go_wp2_with fail
  refine (tape_any rawT mode T L n v.size _ hplan hv60 h1).mono ?_
  rintro e w3 ⟨sa, rfl, hsa, hb3⟩
  have HSA := hid hsa
  obtain ⟨q0, q1, q2⟩ := HPL.out w3 hb3
  clear hsa p0 p1 p2
  have HFC := hid (fresh_ok n key mode T L v sa w3 hplan hv60 hng (Nat.le_of_eq HSA.out.symm) hk)
  go_wp2_with fail
  refine HFC.out.mono ?_
  rintro e w4 ⟨C, V, B, bc, sp, vs, xs, rfl, hCf, hCl, hC, hb4⟩
  have hb24 := hb3.trans (hb4.mono hb3.size)
  obtain ⟨p0, p1, p2⟩ := HPL.out w4 hb24
  have HCF := hid hCf
  have HC := hid hC
  have HSO := hid (split_ok mode T L n v sa w4 hplan hv60 (Nat.le_of_eq HSA.out.symm))
  clear hCf hC q0 q1 q2
  go_wp2_with fail
  refine HSO.out.mono ?_
  rintro e w5 ⟨g5, rfl, hown5, hb5⟩
  have hb25 := hb24.trans (hb5.mono hb24.size)
  have HO5 := hid hown5
  have HPL1 := hid (show ∀ (tp : ByteArray), tp.size = sa.size → ∀ i, i < n → ((Cof.split v.data.toList mode T L n tp.data.toList).getD i []).length = Cof.ngroups mode T L v.size from fun tp htp i hi => split_len hplan _ _ i hi (by show _ ≤ tp.size; rw [htp]; exact Nat.le_of_eq HSA.out.symm))
  clear hown5 p0 p1 p2
  go_wp2_with fail
  go_loopw [24] (fun u wr => ∃ (k : Nat), k ≤ n ∧ u = .int .i64 k ∧ Below w5.heap.size w5 wr) (fun u _ => n - (intOf u).toNat)
  case atStart => exact ⟨0, Nat.zero_le _, rfl, Below.refl _ _⟩
  case round =>
    obtain ⟨k, hkn, rfl, hbr⟩ := hrel
    by_cases hlt : k < n
    · have hlt' : (k : Int) < (n : Int) := by omega
      have hb4r := hb5.trans (hbr.mono hb5.size)
      have HWI := hid ((HC.out.below hb4r).within C k (HCF.out.keeps (Spared.ofBelow (own := fun _ => False) hb4r (Nat.le_refl _)) (fun h => h)) hplan hv60 hlt (HPL1.out sa rfl k hlt))
      obtain ⟨p0, p1, p2⟩ := HPL.out wr (hb25.trans (hbr.mono hb25.size))
      have HLK := hid (show ∀ w', Below wr.heap.size wr w' → w'.cell? ⟨g5, k, none⟩ = some (.string ⟨((Cof.split v.data.toList mode T L n sa.data.toList).getD k []).toArray⟩) from fun w' hb => by
        have h5 := (HO5.out.lt g5 rfl).2
        rw [hb.cell (by show g5 < wr.heap.size; have := hbr.size; omega), hbr.cell (by exact h5), HO5.out.cellAt k (by omega)]
        simp [strs, str, split_length, hlt])
      generalize (⟨((Cof.split v.data.toList mode T L n sa.data.toList).getD k []).toArray⟩ : ByteArray) = bk at *
      go_wp2_with fail
      refine HWI.out.mono ?_
      rintro e w6 ⟨rfl, hb6⟩
      have cl := HLK.out w6 hb6
      go_wp2_with fail
      exact ⟨⟨k + 1, by omega, by rw [Int.natCast_add]; rfl, hbr.trans (hb6.mono hbr.size)⟩, by simp [intOf]; omega⟩
    · have hkk : k = n := by omega
      subst hkk
      obtain ⟨p0, p1, p2⟩ := HPL.out wr (hb25.trans (hbr.mono hb25.size))
      obtain ⟨N, hN⟩ : ∃ N, N = Cof.gsize mode T L + Cof.tsize mode T := ⟨_, rfl⟩
      have hNn : N ≤ k := by
        obtain ⟨_, _, _, _, _, h6⟩ := hplan
        rw [hN]; unfold Cof.gsize Cof.tsize
        rcases h6 with ⟨rfl, h6⟩ | ⟨rfl, h6⟩ <;> simp <;> omega
      have hN1 : 1 ≤ N := by have := (gsize_le hplan).1; omega
      have HTH := hid (fun w' => keepThr_any mode T L k w' hplan)
      rw [← hN] at HTH
      have HN := hid hN
      clear hN
      go_wp2_with fail
      refine (HTH.out wr).mono ?_
      rintro e w6 ⟨rfl, hb6⟩
      obtain ⟨M, hM⟩ : ∃ M, M + N = k + 1 := ⟨k + 1 - N, by omega⟩
      have hMi : (k : Int) - (N : Int) + 1 = (M : Int) := by omega
      have hM1 : 0 < M := by omega
      have hM8 : M ≤ 1000 := by omega
      have hpk := pickN_lt more M hM1
      have HPK := hid (fun w' => pick_any more M w' hmo.1 hmo.2 hM1 hM8)
      generalize pickN more M = pk at *
      obtain ⟨K, hK⟩ : ∃ K, K = N + pk := ⟨_, rfl⟩
      have hKi : (N : Int) + (pk : Int) = (K : Int) := by omega
      have hKn : K ≤ k := by omega
      have hNK : N ≤ K := by omega
      clear hM hK
      have hb06 : Below w.heap.size w w6 := (hb02.trans (hb25.mono hb02.size)).trans ((hbr.trans (hb6.mono hbr.size)).mono (by have := hb02.size; have := hb25.size; omega))
      have HB06 := hid hb06
      have HCH := hid (fun w' (hb : Below w.heap.size w w') => chosen_any aS nS cS k K zs w' HSR.out.1 (HSR.out.2.1.below hb (Nat.le_refl _)) HSR.out.2.2 (by unfold maxLen at hSl; omega) hn1 hn8 hKn)
      go_wp2_with (go_at_call 12; refine (HPK.out _).mono ?_; rintro e w7 ⟨rfl, rfl⟩)
      refine (HCH.out _ HB06.out).mono ?_
      rintro e w8 ⟨vc, ss, rfl, hsl, hnd, hlts, hown8, hb8⟩
      obtain ⟨aC, cC, rfl, hrC⟩ := owns_any_rd hown8
      have hb48 := (hb5.trans (hbr.mono hb5.size)).trans ((hb6.trans (hb8.mono hb6.size)).mono (by have := hb5.size; have := hbr.size; omega))
      have hCh := HC.out.hi
      have hCs := HC.out
      have HOW := hid (show ∀ b, (b = V ∨ ∃ i, i < k ∧ (vs i).ownBlock = some b) → w3.heap.size ≤ b ∧ b < w4.heap.size from by
        rintro b (rfl | ⟨i, hi, hb⟩)
        · exact ⟨hCs.bV, hCh.1⟩
        · exact ⟨hCs.bv i hi b hb, hCh.2.2.2 i hi b hb⟩)
      have HSS := hid (And.intro hsl (And.intro hnd hlts))
      have HRC := hid hrC
      have HOC := hid hown8
      have hb68 := HB06.out.trans (hb8.mono HB06.out.size)
      have HB68 := hid hb68
      have HC8 := hid (HC.out.below hb48)
      have HCF8 := hid (HCF.out.keeps (Spared.ofBelow (own := fun _ => False) hb48 (Nat.le_refl _)) (fun h => h))
      have HP8 := hid (show w8.heap[w1.heap.size]? = some (.cells #[.int .i64 mode, .int .i64 T, .int .i64 L] 29) from by
        rw [hb48.block _ (by have := hb24.size; omega), hb24.block _ hl2]; exact HPB.out)
      have hz48 := hb48.size
      have hz24 := hb24.size
      have hz3' := hb3.size
      have hCne : ∀ w', Cf w' C V → (∃ s e xs', One w' w3.heap.size V key k B bc sp (fun _ => false) mode T L v.size e ⟨#[107]⟩ s vs xs') → ¬ (C = V ∨ ∃ i, i < k ∧ (vs i).ownBlock = some C) := by
        rintro w' hcf ⟨s, e, xs', ho⟩ (h | ⟨i, hi, hb⟩)
        · obtain ⟨dn, ah, hvt⟩ := ho.vt
          unfold Cf at hcf
          rw [h, hvt.hp] at hcf
          cases hcf
        · exact row_ne (ho.st i hi).row hcf (by decide) hb
      have HCNE := hid hCne
      clear hsl hnd hlts hown8 hrC hCh hCs hCne hb68 p0 p1 p2
      go_wp2_with fail
      go_loopw [29] (fun u wr => ∃ (r ep : Nat) (x : ByteArray) (xs' : Nat → RecV), ep ≤ r ∧ r ≤ 6 ∧ r ≤ nT + 1 ∧ u = .int .i64 r ∧ Spared (fun b => b = V ∨ ∃ i, i < k ∧ (vs i).ownBlock = some b) w8 wr ∧ x.size = sa.size ∧ Cf wr C V ∧ One wr w3.heap.size V key k B bc sp (fun _ => false) mode T L v.size (if mode = 0 then ep else 0) ⟨#[107]⟩ (fun i => (Cof.split v.data.toList mode T L k x.data.toList).getD i []) vs xs') (fun u _ => 6 - (intOf u).toNat)
      case atStart => exact ⟨0, 0, sa, xs, Nat.le_refl _, by omega, by omega, rfl, Spared.refl _ _, rfl, HCF8.out, by rw [show (if mode = 0 then 0 else 0) = 0 by split <;> rfl]; exact HC8.out⟩
      case round =>
        obtain ⟨r, ep, x, xs', hep, hr6, hrT, rfl, hsp, hxs, hcf, hone⟩ := hrel
        obtain ⟨wo, rfl⟩ : ∃ wo, wo = wr := ⟨_, rfl⟩
        by_cases hgo : r ≤ nT ∧ r < 6
        · obtain ⟨hg1, hg2⟩ := hgo
          have hg1' : (r : Int) ≤ (nT : Int) := by omega
          have hg2' : (r : Int) < (6 : Int) := by omega
          have HPO := hid (show wo.heap[w1.heap.size]? = some (.cells #[.int .i64 mode, .int .i64 T, .int .i64 L] 29) from hsp.heap HP8.out (fun h => by have := HOW.out _ h; omega))
          have HRO := hid (show Rd wo aC (ints ss) from by
            have h9 := owns_spared HOC.out hsp (fun b hb h => by have h1 := HOW.out _ h; have h2 := (HOC.out.lt b hb).1; have := hb5.size; have := hbr.size; have := hb6.size; omega)
            obtain ⟨a', c', e1, e2⟩ := owns_any_rd h9
            cases e1
            exact e2)
          have HONE := hid hone
          have HCFO := hid hcf
          have HSPO := hid hsp
          have HXS := hid hxs
          have hlp := cells_lt HPO.out
          clear hone hcf hsp hxs
          go_wp2_with fail
          go_loopw [30, 31] (fun ov u wi => ∃ (j : Nat), j ≤ K ∧ u = .int .i64 j ∧ wi.ownsRow wo.heap.size 63 2 ov j (pcs (Cof.split v.data.toList mode T L k x.data.toList) (ss.take j)) ∧ Below wo.heap.size wo wi) (fun _ u _ => K - (intOf u).toNat)
          case atStart => exact ⟨0, Nat.zero_le _, rfl, ⟨rfl, .inl ⟨rfl, rfl⟩⟩, Below.refl _ _⟩
          case round =>
            obtain ⟨j, hjK, rfl, hrow, hbi⟩ := hrel
            by_cases hlt : j < K
            · have hjs : j < ss.length := by rw [HSS.out.1]; exact hlt
              have hsk : ss[j] < k := HSS.out.2.2 _ (List.getElem_mem hjs)
              obtain ⟨s, hs⟩ : ∃ s, s = ss[j] := ⟨_, rfl⟩
              rw [← hs] at hsk
              obtain ⟨bC, oC, rfl, hbC, hcC⟩ := HRO.out.pos (by simp [ints]; omega)
              have cs : ∀ w', Below wo.heap.size wo w' → w'.cell? ⟨bC, oC + j, none⟩ = some (.int .i64 s) := fun w' hb => (hb.cell (by exact hbC)).trans (by rw [hs]; exact hcC j _ (ints_get ss j hjs))
              have pl : ∀ w', Below wo.heap.size wo w' → w'.cell? ⟨w1.heap.size, 0, none⟩ = some (.int .i64 mode) ∧ w'.cell? ⟨w1.heap.size, 1, none⟩ = some (.int .i64 T) ∧ w'.cell? ⟨w1.heap.size, 2, none⟩ = some (.int .i64 L) := fun w' hb => ⟨by rw [hb.cell (by exact hlp), cells_at HPO.out]; rfl, by rw [hb.cell (by exact hlp), cells_at HPO.out]; rfl, by rw [hb.cell (by exact hlp), cells_at HPO.out]; rfl⟩
              have c0 := cs _ hbi
              obtain ⟨p0, p1, p2⟩ := pl _ hbi
              have HWI := hid (fun w' (hb : Below wo.heap.size wo w') => (HONE.out.below hb).within C s (HCFO.out.keeps (Spared.ofBelow (own := fun _ => False) hb (Nat.le_refl _)) (fun h => h)) hplan hv60 hsk (HPL1.out x HXS.out s hsk))
              have HSN := hid (show pcs (Cof.split v.data.toList mode T L k x.data.toList) (ss.take (j + 1)) = pcs (Cof.split v.data.toList mode T L k x.data.toList) (ss.take j) ++ [.int .i64 s, .string ⟨((Cof.split v.data.toList mode T L k x.data.toList).getD s []).toArray⟩] from by rw [pcs_snoc _ _ _ hjs, hs]; rfl)
              generalize (⟨((Cof.split v.data.toList mode T L k x.data.toList).getD s []).toArray⟩ : ByteArray) = bk at *
              have HCS := hid cs
              have HPLI := hid pl
              have HROW := hid hrow
              have hlt' : (j : Int) < (K : Int) := by omega
              clear cs pl hrow hs
              obtain ⟨wj, rfl⟩ : ∃ wj, wj = wr := ⟨_, rfl⟩
              go_wp2_with fail
              go_region_held3 (fun w' => w'.cell? ⟨bC, oC + j, none⟩ = some (.int .i64 s) ∧ w'.cell? ⟨w1.heap.size, 0, none⟩ = some (.int .i64 mode) ∧ w'.cell? ⟨w1.heap.size, 1, none⟩ = some (.int .i64 T) ∧ w'.cell? ⟨w1.heap.size, 2, none⟩ = some (.int .i64 L)) (first | exact ⟨c0, p0, p1, p2⟩ | exact D2.out | go_keep)
                (first | (go_at_call 29; refine (HWI.out _ hbi.drew).mono ?_; rintro e w10 ⟨rfl, hb10⟩; (have hbi10 : Below wo.heap.size wo w10 := hbi.drew.trans (hb10.mono hbi.size)); (have D2 := hid (And.intro (HCS.out w10 hbi10) (HPLI.out w10 hbi10)))))
              have c10 := HCS.out w10 hbi10
              have hbj10 : Below wj.heap.size wj w10 := (Below.refl wj.heap.size wj).drew.trans hb10
              have hba10 := (Below.refl w10.heap.size w10).alloc (Nat.le_refl _) (.cells #[.int .i64 s, .string bk] 63)
              have HRW := hid (owns_below_size (owns_below_size HROW.out hbj10 (Nat.le_refl _)) hba10 (Nat.le_refl _))
              go_wp2_with (first | (at_builtin; refine wpList_append_own _ rfl (.tmp 143) (.tmp 150) 61 rfl wo.heap.size 63 i0 _ 2 24 Tryz.underlying61 hi hz0 hz1 hz2 rfl (by decide) _ j (pcs (Cof.split v.data.toList mode T L k x.data.toList) (ss.take j)) rfl HRW.out ⟨w10.heap.size, 0, none⟩ 1 1 [.int .i64 s, .string bk] rfl rfl (fun q u hq => by rw [add_at, World.cell?_alloc_at _ _ _ _ rfl, Nat.zero_add]; simpa using hq) (fun u hu => by simp at hu; rcases hu with rfl | rfl <;> rfl) (by unfold maxLen; omega) (by omega) (by have := hbi10.size; simp; omega) ?_; intro v2 w11 hown2 hgrow2 _; (have HO2 := hid hown2); (have HB2 := hid ((hbi10.trans (hba10.mono hbi10.size)).grown hgrow2 (by have := hbi10.size; simp; omega) (fun q hq => (HRW.out.lt q hq).1))); clear hown2 hgrow2) | fail)
              exact ⟨⟨j + 1, by omega, by rw [Int.natCast_add]; rfl, by rw [HSN.out]; exact HO2.out, HB2.out⟩, by simp [intOf]; omega⟩
            · have hjj : j = K := by omega
              subst hjj
              rw [List.take_of_length_le (by rw [HSS.out.1]; exact Nat.le_refl _)] at hrow
              obtain ⟨aM, cM, rfl, hcM, hprd⟩ := pieces_right hrow HSS.out.1
              have HJN := hid (join_split_ok mode T L k j cM N v x aM ss wr hplan hv60 (by rw [HXS.out]; exact HSA.out) HN.out hNK (by omega) hcM HSS.out.1 HSS.out.2.1 HSS.out.2.2 (HPL1.out x HXS.out) hprd)
              have p0 : wr.cell? ⟨w1.heap.size, 0, none⟩ = some (.int .i64 mode) := by rw [hbi.cell (by exact hlp), cells_at HPO.out]; rfl
              have p1 : wr.cell? ⟨w1.heap.size, 1, none⟩ = some (.int .i64 T) := by rw [hbi.cell (by exact hlp), cells_at HPO.out]; rfl
              have p2 : wr.cell? ⟨w1.heap.size, 2, none⟩ = some (.int .i64 L) := by rw [hbi.cell (by exact hlp), cells_at HPO.out]; rfl
              clear hrow hprd
              go_wp2_with fail
              refine HJN.out.mono ?_
              rintro e w12 ⟨rfl, hb12⟩
              have hb0o : Below w.heap.size w wo := HB68.out.trans (HSPO.out.below w.heap.size HB68.out.size (fun b hb => by have := (HOW.out b hb).1; have := hb02.size; omega))
              have hbo12 : Below wo.heap.size wo w12 := hbi.trans (hb12.mono hbi.size)
              have hb012 : Below w.heap.size w w12 := hb0o.trans (hbo12.mono hb0o.size)
              have HB012 := hid hb012
              have HBO12 := hid hbo12
              have HPLI := hid (show ∀ w', Below wo.heap.size wo w' → w'.cell? ⟨w1.heap.size, 0, none⟩ = some (.int .i64 mode) ∧ w'.cell? ⟨w1.heap.size, 1, none⟩ = some (.int .i64 T) ∧ w'.cell? ⟨w1.heap.size, 2, none⟩ = some (.int .i64 L) from fun w' hb => ⟨by rw [hb.cell (by exact hlp), cells_at HPO.out]; rfl, by rw [hb.cell (by exact hlp), cells_at HPO.out]; rfl, by rw [hb.cell (by exact hlp), cells_at HPO.out]; rfl⟩)
              clear hb0o hbo12 hb012 p0 p1 p2
              by_cases hrl : r < nT
              · have hrl' : (r : Int) < (nT : Int) := by omega
                have hrtl : r < tl.length := by rw [← HTR.out.1]; exact hrl
                obtain ⟨bT, oT, rfl, hbT, hcT⟩ := HTR.out.2.1.pos (by rw [List.length_map]; omega)
                obtain ⟨st, hst⟩ : ∃ st, st = tl[r] := ⟨_, rfl⟩
                have hsts : st.size ≤ maxLen := by rw [hst]; exact HTR.out.2.2 _ (List.getElem_mem hrtl)
                have HCT := hid (show ∀ w', Below w.heap.size w w' → w'.cell? ⟨bT, oT + r, none⟩ = some (.string st) from fun w' hb => (hb.cell (by exact hbT)).trans (hcT r _ (by rw [List.getElem?_map, List.getElem?_eq_getElem hrtl, hst]; rfl)))
                have HRF := hid (fun w' (hb : Below wo.heap.size wo w') (hbw : Below w.heap.size w w') (y : ByteArray) hy => (HONE.out.below hb).again C y (HCFO.out.keeps (Spared.ofBelow (own := fun _ => False) hb (Nat.le_refl _)) (fun h => h)) hplan (by omega) hv60 hk (by rw [HXS.out]; exact HSA.out) hy (HT.out.keeps hbw (Nat.le_refl _)) (HE.out.keeps hbw (Nat.le_refl _)))
                have HTP := hid (fun w' => tape_any st mode T L k v.size w' hplan hv60 hsts)
                have c0 := HCT.out _ HB012.out
                obtain ⟨p0, p1, p2⟩ := HPLI.out _ HBO12.out
                clear hcT hst
                obtain ⟨gv, hgv⟩ : ∃ gv : Int, gv = if mode = 0 then 0 else 11 := ⟨_, rfl⟩
                rw [← hgv] at HRF
                have HGV := hid hgv
                clear hgv
                go_wp2_with fail
                go_region_held3 (fun w' => w'.cell? ⟨bT, oT + r, none⟩ = some (.string st) ∧ w'.cell? ⟨w1.heap.size, 0, none⟩ = some (.int .i64 mode) ∧ w'.cell? ⟨w1.heap.size, 1, none⟩ = some (.int .i64 T) ∧ w'.cell? ⟨w1.heap.size, 2, none⟩ = some (.int .i64 L)) (first | exact ⟨c0, p0, p1, p2⟩ | exact D14.out | exact D13.out | go_keep)
                  (first
                    | (go_at_call 16; refine (HTP.out _).mono ?_; rintro e w13 ⟨sb, rfl, hsb, hb13⟩; (have hb1213 : Below w12.heap.size w12 w13 := (Below.refl w12.heap.size w12).drew.trans hb13); (have HBO13 := hid (HBO12.out.trans (hb1213.mono HBO12.out.size))); (have HB013 := hid (HB012.out.trans (hb1213.mono HB012.out.size))); (have D13 := hid (And.intro (HCT.out _ HB013.out) (HPLI.out _ HBO13.out))); (have HSB := hid hsb); clear hsb)
                    | (go_at_call 17; refine (HRF.out _ HBO13.out HB013.out sb HSB.out).mono ?_; rintro e w14 ⟨rfl, hx14, hs14⟩; (have HX14 := hid hx14); (have HS14 := hid hs14); (have D14 := hid (show w14.cell? ⟨bT, oT + r, none⟩ = some (.string st) ∧ w14.cell? ⟨w1.heap.size, 0, none⟩ = some (.int .i64 mode) ∧ w14.cell? ⟨w1.heap.size, 1, none⟩ = some (.int .i64 T) ∧ w14.cell? ⟨w1.heap.size, 2, none⟩ = some (.int .i64 L) from by
                        have hne1 : ¬ (bT = V ∨ ∃ i, i < k ∧ (vs i).ownBlock = some bT) := fun h => by have := (HOW.out _ h).1; have := hb02.size; omega
                        have hne2 : ¬ (w1.heap.size = V ∨ ∃ i, i < k ∧ (vs i).ownBlock = some w1.heap.size) := fun h => by have := (HOW.out _ h).1; omega
                        have hl13 := HBO13.out.size
                        have hl013 := HB013.out.size
                        obtain ⟨d0, d1, d2, d3⟩ := D13.out
                        exact ⟨(World.cell?_of_block (hs14.block bT (by omega) hne1)).trans d0, (World.cell?_of_block (hs14.block w1.heap.size (by omega) hne2)).trans d1, (World.cell?_of_block (hs14.block w1.heap.size (by omega) hne2)).trans d2, (World.cell?_of_block (hs14.block w1.heap.size (by omega) hne2)).trans d3⟩)); clear hx14 hs14))
                have p14 := D14.out.2.1
                have HNX := hid (show ∃ (x' : ByteArray) (ys : Nat → RecV), x'.size = sa.size ∧ Spared (fun b => b = V ∨ ∃ i, i < k ∧ (vs i).ownBlock = some b) w8 w14 ∧ Cf w14 C V ∧ One w14 w3.heap.size V key k B bc sp (fun _ => false) mode T L v.size (if mode = 0 then ep + 1 else 0) ⟨#[107]⟩ (fun i => (Cof.split v.data.toList mode T L k x'.data.toList).getD i []) vs ys from by
                  obtain ⟨x', ys, hx', hone'⟩ := HX14.out
                  have hcf13 : Cf w13 C V := HCFO.out.keeps (Spared.ofBelow (own := fun _ => False) HBO13.out (Nat.le_refl _)) (fun h => h)
                  exact ⟨x', ys, by rw [hx']; exact HSA.out.symm, (HSPO.out.trans (Spared.ofBelow HBO13.out (Nat.le_refl _))).trans HS14.out, hcf13.keeps HS14.out (HCNE.out w13 hcf13 ⟨_, _, _, HONE.out.below HBO13.out⟩), hone'⟩)
                rcases Nat.eq_zero_or_pos mode with hm0 | hm0
                · have hg0 : gv = 0 := by rw [HGV.out, hm0]; rfl
                  have hb0 : ((mode : Int) == 0) = true := by simp [hm0]
                  have hb1 : ((mode : Int) != 0) = false := by simp [hm0]
                  subst hg0
                  clear hm0
                  go_wp2_with fail
                  obtain ⟨x', ys, a1, a2, a3, a4⟩ := HNX.out
                  exact ⟨⟨r + 1, ep + 1, x', ys, by omega, by omega, by omega, by rw [Int.natCast_add]; rfl, a2, a1, a3, a4⟩, by simp [intOf]; omega⟩
                · have hg0 : gv = 11 := by rw [HGV.out]; simp; omega
                  have hb0 : ((mode : Int) == 0) = false := by simp; omega
                  have hb1 : ((mode : Int) != 0) = true := by simp; omega
                  subst hg0
                  clear hm0
                  go_wp2_with fail
                  obtain ⟨x', ys, a1, a2, a3, a4⟩ := HNX.out
                  exact ⟨⟨r + 1, ep + 1, x', ys, by omega, by omega, by omega, by rw [Int.natCast_add]; rfl, a2, a1, a3, a4⟩, by simp [intOf]; omega⟩
              · have hrl' : ¬ (r : Int) < (nT : Int) := by omega
                have HNX := hid (show Spared (fun b => b = V ∨ ∃ i, i < k ∧ (vs i).ownBlock = some b) w8 w12 ∧ Cf w12 C V ∧ One w12 w3.heap.size V key k B bc sp (fun _ => false) mode T L v.size (if mode = 0 then ep else 0) ⟨#[107]⟩ (fun i => (Cof.split v.data.toList mode T L k x.data.toList).getD i []) vs xs' from
                  ⟨HSPO.out.trans (Spared.ofBelow HBO12.out (Nat.le_refl _)), HCFO.out.keeps (Spared.ofBelow (own := fun _ => False) HBO12.out (Nat.le_refl _)) (fun h => h), HONE.out.below HBO12.out⟩)
                go_wp2_with fail
                exact ⟨⟨r + 1, ep, x, xs', by omega, by omega, by omega, by rw [Int.natCast_add]; rfl, HNX.out.1, HXS.out, HNX.out.2.1, HNX.out.2.2⟩, by simp [intOf]; omega⟩
        · have HB0 := hid (show Below w.heap.size w wo from HB68.out.trans (hsp.below w.heap.size HB68.out.size (fun b hb => by have := (HOW.out b hb).1; have := hb02.size; omega)))
          clear hsp hxs hcf hone
          by_cases hg1 : r ≤ nT
          · have hg1' : (r : Int) ≤ (nT : Int) := by omega
            have hg2' : ¬ (r : Int) < (6 : Int) := by omega
            clear hgo
            go_wp2_with fail
            go_ret
            exact ⟨rfl, HB0.out⟩
          · have hg1' : ¬ (r : Int) ≤ (nT : Int) := by omega
            clear hgo
            go_wp2_with fail
            go_ret
            exact ⟨rfl, HB0.out⟩
end Go.Proofs.YtcegdgmbponapaaGreatDoor
