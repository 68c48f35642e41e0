/-
  The walk of cofferkeep.Enough.
-/
import Derived.Test.YtcegdgmbponapaaDoorWThr
import Derived.Test.YtcegdgmbponapaaDoorWPieces
import Derived.Test.YtcegdgmbponapaaDoorWTape
import Derived.BigQuiet
namespace Go.Proofs.YtcegdgmbponapaaDoor
open Go.RowKit
attribute [local go_sem ↓] Go.wp_at_zero Go.wp_at_succ

set_option maxRecDepth 100000 in
set_option maxHeartbeats 1000000 in
theorem enough_any (rn m t l more : Int) (value rt : ByteArray) (aS : Option Addr) (cS kS : Nat) (zs : List Int) (w : World) (hrn : I64 rn) (hm : I64 m) (ht : I64 t) (hl : I64 l) (hmore : I64 more) (hrt : rt.size ≤ maxLen)
    (eS : kS = zs.length) (hS : Rd w aS (intsZ zs)) (hz : ∀ z ∈ zs, I64 z) (hk : kS ≤ 9223372036854775807) (hg : ErrType w) :
    Calls Tryd.prog 5 #[.int .i64 rn, .agg #[.int .i64 m, .int .i64 t, .int .i64 l], .string value, .string rt, .slice aS kS cS, .int .i64 more] w fun e w' => e = .returned (.bool true) ∧ Below w.heap.size w w' := by
  have hq8 := pickN_lt rn 8 (by omega)
  have ES := hid eS
  have HGE := hid hg
  clear eS hg
  go_enter Tryd.func5, Tryd.ntmps5
  go_wp2_with fail
  refine (pick_any rn 8 _ hrn.1 hrn.2 (by omega) (by omega)).mono ?_
  rintro e w0 ⟨rfl, rfl⟩
  generalize pickN rn 8 = q at *
  obtain ⟨n, hn⟩ : ∃ n, n = 1 + q := ⟨_, rfl⟩
  have hni : 1 + (q : Int) = (n : Int) := by omega
  have hn1 : 1 ≤ n := by omega
  have hn8 : n ≤ 8 := by omega
  clear hn
  go_wp2_with fail
  refine (plan_any m t l n _ hm ht hl hn1 hn8).mono ?_
  rintro e w1 ⟨rfl, hb1⟩
  have hplan := plan_is m t l n hn1 hn8
  generalize pMode m = mode at *
  generalize pT t n = T at *
  generalize pL m t l n = L at *
  have hb01 : Below w.heap.size w w1 := ((Below.refl _ _).alloc (Nat.le_refl _) _).trans (hb1.mono (by simp))
  have hz01 : w.heap.size ≤ w1.heap.size := hb01.size
  clear hb1
  go_wp2_with fail
  refine (short_any value 60 _ (by omega)).mono ?_
  rintro e w0' ⟨rfl, rfl⟩
  have hv60 : (value.extract 0 60).size ≤ 60 := by simp; omega
  generalize value.extract 0 60 = v at *
  have hthr := fun w => keepThr_any mode T L n w hplan
  obtain ⟨hgs1, hgs8, hts8⟩ := gsize_le hplan
  obtain ⟨N, hN⟩ : ∃ N, N = Cof.gsize mode T L + Cof.tsize mode T := ⟨_, rfl⟩
  have hNn : N ≤ n := by
    obtain ⟨_, _, _, _, _, h6⟩ := hplan
    rw [hN]; unfold Cof.gsize Cof.tsize
    rcases h6 with ⟨rfl, h6⟩ | ⟨rfl, h6⟩ <;> simp <;> omega
  have hN1 : 1 ≤ N := by omega
  rw [← hN] at hthr
  have HTH := hid hthr
  have HN := hid hN
  have HPL := hid hplan
  clear hthr hN hplan
  have hba := (Below.refl w1.heap.size w1).alloc (Nat.le_refl _) (.cells #[.int .i64 mode, .int .i64 T, .int .i64 L] 23)
  go_wp2_with fail
  refine (HTH.out _).mono ?_
  rintro e w2 ⟨rfl, hb2⟩
  have hz2 : w1.heap.size < w2.heap.size := by have := hb2.size; simp at this; omega
  have hb02 : Below w.heap.size w w2 := hb01.trans ((hba.mono hz01).trans (hb2.mono (by simp; omega)))
  have p0 : w2.cell? ⟨w1.heap.size, 0, none⟩ = some (.int .i64 mode) := (hb2.cell (by simp)).trans (by simp)
  have p1 : w2.cell? ⟨w1.heap.size, 1, none⟩ = some (.int .i64 T) := (hb2.cell (by simp)).trans (by simp)
  have p2 : w2.cell? ⟨w1.heap.size, 2, none⟩ = some (.int .i64 L) := (hb2.cell (by simp)).trans (by simp)
  obtain ⟨M, hM⟩ : ∃ M, M = n - N + 1 := ⟨_, rfl⟩
  have hMi : (n : Int) - (N : Int) + 1 = (M : Int) := by omega
  have hM8 : M ≤ 8 := by omega
  have hM1 : 0 < M := by omega
  have hMn : N + M ≤ n + 1 := by omega
  clear hb2 hba hb01 hM
  go_wp2_with fail
  refine (pick_any more M _ hmore.1 hmore.2 hM1 (by omega)).mono ?_
  rintro e w2e ⟨rfl, rfl⟩
  have hpk := pickN_lt more M hM1
  generalize pickN more M = x at *
  obtain ⟨K, hK⟩ : ∃ K, K = N + x := ⟨_, rfl⟩
  have hKi : (N : Int) + (x : Int) = (K : Int) := by omega
  have hKn : K ≤ n := by omega
  have hNK : N ≤ K := by omega
  clear hK
  go_wp2_with fail
  go_region_held3 (fun w' => w'.cell? ⟨w1.heap.size, 0, none⟩ = some (.int .i64 mode) ∧ w'.cell? ⟨w1.heap.size, 1, none⟩ = some (.int .i64 T) ∧ w'.cell? ⟨w1.heap.size, 2, none⟩ = some (.int .i64 L)) (first | exact ⟨z0, z1, z2⟩ | exact ⟨y0, y1, y2⟩ | exact ⟨x0, x1, x2⟩ | exact ⟨p0, p1, p2⟩ | go_keep)
    (first
      | (go_at_call 23; refine (tape_any rt mode T L n v.size _ HPL.out hv60 hrt).mono ?_; rintro e w3 ⟨sa, rfl, hsa, hb3⟩; have HSA := hid hsa; clear hsa; have hb23 : Below w2e.heap.size w2e w3 := ((Below.refl _ _).drew).trans hb3; have hz23 := hb23.size; have x0 : w3.cell? ⟨w1.heap.size, 0, none⟩ = some (.int .i64 mode) := (hb23.cell (by exact hz2)).trans p0; have x1 : w3.cell? ⟨w1.heap.size, 1, none⟩ = some (.int .i64 T) := (hb23.cell (by exact hz2)).trans p1; have x2 : w3.cell? ⟨w1.heap.size, 2, none⟩ = some (.int .i64 L) := (hb23.cell (by exact hz2)).trans p2; have hb03 : Below w.heap.size w w3 := hb02.trans (hb23.mono (by omega)))
      | (go_at_call 24; refine (chosen_any aS kS cS n K zs _ ES.out (by exact hS.below hb03 (Nat.le_refl _)) hz hk hn1 hn8 hKn).mono ?_; rintro e w4 ⟨vc, ss, rfl, hsl, hnd, hlt, hown4, hb4⟩; obtain ⟨aC, cC, rfl, hrC⟩ := owns_any_rd hown4; have HSL := hid hsl; have HND := hid hnd; have HLT := hid hlt; clear hown4 hsl hnd hlt; have hz34 := hb4.size; have y0 : w4.cell? ⟨w1.heap.size, 0, none⟩ = some (.int .i64 mode) := (hb4.cell (by show w1.heap.size < w3.heap.size; omega)).trans x0; have y1 : w4.cell? ⟨w1.heap.size, 1, none⟩ = some (.int .i64 T) := (hb4.cell (by show w1.heap.size < w3.heap.size; omega)).trans x1; have y2 : w4.cell? ⟨w1.heap.size, 2, none⟩ = some (.int .i64 L) := (hb4.cell (by show w1.heap.size < w3.heap.size; omega)).trans x2; have hb04 : Below w.heap.size w w4 := hb03.trans (hb4.mono (by omega)))
      | (go_at_call 22; refine (pieces_ok mode T L n v sa ss aC K cC _ HPL.out hv60 (by rw [HSA.out]; exact Nat.le_refl _) HSL.out.symm hrC HLT.out (by omega)).mono ?_; rintro e w5 ⟨r, rfl, hown5, hb5⟩; obtain ⟨aL, cL, rfl, hcL, hprd⟩ := pieces_right hown5 HSL.out; have HPR := hid hprd; clear hown5 hprd; have hz45 := hb5.size; have z0 : w5.cell? ⟨w1.heap.size, 0, none⟩ = some (.int .i64 mode) := (hb5.cell (by show w1.heap.size < w4.heap.size; omega)).trans y0; have z1 : w5.cell? ⟨w1.heap.size, 1, none⟩ = some (.int .i64 T) := (hb5.cell (by show w1.heap.size < w4.heap.size; omega)).trans y1; have z2 : w5.cell? ⟨w1.heap.size, 2, none⟩ = some (.int .i64 L) := (hb5.cell (by show w1.heap.size < w4.heap.size; omega)).trans y2; have hb05 : Below w.heap.size w w5 := hb04.trans (hb5.mono (by omega))))
  have HB5 := hid hb05
  have hgs0 : 0 < Cof.gsize mode T L := by omega
  have hrow : ∀ s ∈ ss, ((Cof.split v.data.toList mode T L n sa.data.toList).getD s []).length = Cof.ngroups mode T L v.size := fun s hs => by
    rw [Cof.split_row v.data.toList sa.data.toList _ _ _ _ _ (HLT.out s hs) hgs0 HSA.out]
    simp
  have hjs := Cof.join_split v.data.toList sa.data.toList mode T L n (ss.take N) hgs0 (Nat.le_trans HPL.out.tn hn8) (by have h1 := HPL.out.t1; rcases HPL.out.md with ⟨_, h⟩ | ⟨_, h⟩ <;> omega) HSA.out (HND.out.sublist (List.take_sublist _ _)) (fun s hs => Nat.lt_of_lt_of_le (HLT.out s (List.mem_of_mem_take hs)) hn8) (fun s hs => HLT.out s (List.mem_of_mem_take hs)) (by rw [List.length_take, HSL.out, ← HN.out]; omega)
  obtain ⟨P, hP⟩ : ∃ P : List ByteArray, P = ss.map fun s => ⟨((Cof.split v.data.toList mode T L n sa.data.toList).getD s []).toArray⟩ := ⟨_, rfl⟩
  have hPl : P.length = K := by rw [hP, List.length_map, HSL.out]
  have hlen : ∀ i, i < K → (P.getD i ByteArray.empty).size = Cof.ngroups mode T L v.size := fun i hi => by
    have hi' : i < ss.length := by rw [HSL.out]; exact hi
    rw [hP, show (ss.map fun s => (⟨((Cof.split v.data.toList mode T L n sa.data.toList).getD s []).toArray⟩ : ByteArray)).getD i ByteArray.empty = ⟨((Cof.split v.data.toList mode T L n sa.data.toList).getD ss[i] []).toArray⟩ by simp [hi']]
    exact hrow _ (List.getElem_mem hi')
  have hjv : Cof.join mode T L v.size (ss.take N) ((P.take N).map fun p => p.data.toList) = v.data.toList := by
    rw [hP, ← List.map_take, List.map_map]
    exact hjs
  rw [← hP] at HPR
  have hR : Right w5 mode T L n v.size aL K cL ss P := ⟨HPL.out, hv60, HSL.out.symm, HPR.out, by omega, hcL, HLT.out, HND.out, hlen⟩
  obtain ⟨N1, hN1i⟩ : ∃ N1 : Nat, (N : Int) - 1 = (N1 : Int) := ⟨N - 1, by omega⟩
  have hN1c : (N1 : Int) ≤ (cL : Int) := by omega
  have hN1K : N1 ≤ K := by omega
  have hR1 : Right w5 mode T L n v.size aL N1 cL (ss.take N1) (P.take N1) := ⟨HPL.out, hv60, by rw [List.length_take, HSL.out]; omega, HPR.out.take N1, by omega, by omega, fun s hs => HLT.out s (List.mem_of_mem_take hs), HND.out.sublist (List.take_sublist _ _), fun i hi => by
    have := hlen i (by omega)
    rwa [show (P.take N1).getD i ByteArray.empty = P.getD i ByteArray.empty by simp [hi]]⟩
  have HJO := hid (fun (w' : World) (hb : Below w5.heap.size w5 w') => by
    have h := join_ok mode T L n v.size K cL N aL ss P w' (hR.keeps hb) hPl HN.out hNK (by rw [hjv]; rfl)
    rw [hjv, show (⟨v.data.toList.toArray⟩ : ByteArray) = v by simp] at h
    exact h)
  have HJF := hid (fun (w' : World) (hb : Below w5.heap.size w5 w') => join_few mode T L n v.size N1 cL aL (ss.take N1) (P.take N1) w' (hR1.keeps hb) (by rw [← HN.out]; omega) ((HGE.out.keeps HB5.out (Nat.le_refl _)).keeps hb (Nat.le_refl _)))
  have HLEN := hid hlen
  have hKl : 0 < ss.length := by rw [HSL.out]; omega
  obtain ⟨bL, oL, rfl, hbL, _, _⟩ := HPR.out 0 hKl
  have HKG := hid (fun w => keepGroups_any mode T L n v.size w HPL.out hv60)
  obtain ⟨G, hG⟩ : ∃ G, G = Cof.ngroups mode T L v.size := ⟨_, rfl⟩
  rw [← hG] at HKG HLEN
  have hz15 : w1.heap.size < w5.heap.size := by omega
  clear p0 p1 p2 x0 x1 x2 y0 y1 y2 hb23 hb3 hb4 hb5 hb02 hb03 hb04 hb05 hrow hjs hP hlen hjv hR hR1 HTH hMi hM8 hM1 hMn hKi hG hKl hpk hS hz hk hgs1 hgs8 hts8 hgs0 hrC hni hq8 HSA
  go_wp2_with fail
  go_loopw [20] (fun i wr => ∃ k : Nat, k ≤ K ∧ i = .int .i64 k ∧ Below w5.heap.size w5 wr)
    (fun i _ => K - (intOf i).toNat)
  case atStart => exact ⟨0, Nat.zero_le _, rfl, Below.refl _ _⟩
  case round =>
    obtain ⟨k, hkK, rfl, hbel⟩ := hrel
    have hzr := hbel.size
    have c0 : wr.cell? ⟨w1.heap.size, 0, none⟩ = some (.int .i64 mode) := (hbel.cell (by exact hz15)).trans z0
    have c1 : wr.cell? ⟨w1.heap.size, 1, none⟩ = some (.int .i64 T) := (hbel.cell (by exact hz15)).trans z1
    have c2 : wr.cell? ⟨w1.heap.size, 2, none⟩ = some (.int .i64 L) := (hbel.cell (by exact hz15)).trans z2
    by_cases hlt : k < K
    · obtain ⟨b', o', e1, _, _, h2⟩ := HPR.out k (by rw [HSL.out]; exact hlt)
      obtain ⟨rfl, rfl⟩ : bL = b' ∧ oL = o' := by injection e1 with e1; injection e1 with h1 h2; exact ⟨h1, h2⟩
      have d2 : wr.cell? ⟨bL, oL + k * 2 + 1, none⟩ = some (.string (P.getD k ByteArray.empty)) := (hbel.cell (by exact hbL)).trans h2
      have hpz := HLEN.out k hlt
      generalize P.getD k ByteArray.empty = p at *
      have hk1 : (k : Int) < (K : Int) := by omega
      clear h2 e1
      go_wp2_with fail
      go_region_held3 (fun w' => w'.cell? ⟨w1.heap.size, 0, none⟩ = some (.int .i64 mode) ∧ w'.cell? ⟨w1.heap.size, 1, none⟩ = some (.int .i64 T) ∧ w'.cell? ⟨w1.heap.size, 2, none⟩ = some (.int .i64 L) ∧ w'.cell? ⟨bL, oL + k * 2 + 1, none⟩ = some (.string p)) (first | exact ⟨x0, x1, x2, x3⟩ | exact ⟨c0, c1, c2, d2⟩ | go_keep)
        (first
          | (go_at_call 25; refine (HKG.out _).mono ?_; rintro e w6 ⟨rfl, hb6⟩; have hb56 : Below wr.heap.size wr w6 := ((Below.refl _ _).drew).trans hb6; have x0 : w6.cell? ⟨w1.heap.size, 0, none⟩ = some (.int .i64 mode) := (hb56.cell (by show w1.heap.size < wr.heap.size; omega)).trans c0; have x1 : w6.cell? ⟨w1.heap.size, 1, none⟩ = some (.int .i64 T) := (hb56.cell (by show w1.heap.size < wr.heap.size; omega)).trans c1; have x2 : w6.cell? ⟨w1.heap.size, 2, none⟩ = some (.int .i64 L) := (hb56.cell (by show w1.heap.size < wr.heap.size; omega)).trans c2; have x3 : w6.cell? ⟨bL, oL + k * 2 + 1, none⟩ = some (.string p) := (hb56.cell (by show bL < wr.heap.size; omega)).trans d2))
      have hb57 : Below w5.heap.size w5 w6 := hbel.trans (hb56.mono hzr)
      go_wp2_with fail
      go_roundw
      case rel => exact ⟨k + 1, by omega, by go_num, hb57⟩
      case measure => simp [intOf]; omega
    · have hk1 : ¬ (k : Int) < (K : Int) := by omega
      have hcL0 : ¬ cL = 0 := by omega
      have hw1 : IntKind.i64.wrap ((N : Int) - 1) = (N1 : Int) := by rw [IntKind.wrap_i64]; omega
      have hw2 : IntKind.i64.wrap (N1 : Int) = (N1 : Int) := by rw [IntKind.wrap_i64]; omega
      clear hN1i
      go_wp2_with (go_at_call 15; refine (HJO.out _ hbel).mono ?_; rintro e w6 ⟨rfl, hb6⟩; have hb56 : Below w5.heap.size w5 w6 := hbel.trans (hb6.mono hzr); have hz6 := hb6.size; have x0 : w6.cell? ⟨w1.heap.size, 0, none⟩ = some (.int .i64 mode) := (hb56.cell (by exact hz15)).trans z0; have x1 : w6.cell? ⟨w1.heap.size, 1, none⟩ = some (.int .i64 T) := (hb56.cell (by exact hz15)).trans z1; have x2 : w6.cell? ⟨w1.heap.size, 2, none⟩ = some (.int .i64 L) := (hb56.cell (by exact hz15)).trans z2)
      go_region_held3 (fun w' => w'.cell? ⟨w1.heap.size, 0, none⟩ = some (.int .i64 mode) ∧ w'.cell? ⟨w1.heap.size, 1, none⟩ = some (.int .i64 T) ∧ w'.cell? ⟨w1.heap.size, 2, none⟩ = some (.int .i64 L)) (first | exact ⟨y0, y1, y2⟩ | exact ⟨x0, x1, x2⟩ | go_keep)
        (first
          | (go_at_call 15; refine (HJF.out _ (by exact hb56.drew)).mono ?_; rintro e w7 ⟨rfl, hb7⟩; have hb67 : Below w6.heap.size w6 w7 := ((Below.refl _ _).drew).trans hb7; have y0 : w7.cell? ⟨w1.heap.size, 0, none⟩ = some (.int .i64 mode) := (hb67.cell (by show w1.heap.size < w6.heap.size; omega)).trans x0; have y1 : w7.cell? ⟨w1.heap.size, 1, none⟩ = some (.int .i64 T) := (hb67.cell (by show w1.heap.size < w6.heap.size; omega)).trans x1; have y2 : w7.cell? ⟨w1.heap.size, 2, none⟩ = some (.int .i64 L) := (hb67.cell (by show w1.heap.size < w6.heap.size; omega)).trans x2))
      have hb07 : Below w.heap.size w w7 := HB5.out.trans ((hb56.trans (hb67.mono (by omega))).mono (by have := HB5.out.size; omega))
      go_wp2_with fail
      go_ret
      exact ⟨rfl, hb07⟩
end Go.Proofs.YtcegdgmbponapaaDoor
