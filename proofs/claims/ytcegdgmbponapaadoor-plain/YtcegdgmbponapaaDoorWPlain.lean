/-
  The walk of cofferkeep.Plain.
-/
import Derived.Test.YtcegdgmbponapaaDoorWPieces
import Derived.Test.YtcegdgmbponapaaDoorLinear
import Derived.Lib.BufferWrite
namespace Go.Proofs.YtcegdgmbponapaaDoor
open Go.RowKit
attribute [local go_sem ↓] Go.wp_at_zero Go.wp_at_succ

/-- 'copy(dst, s)', s a string, dst a row of bytes of the call's own. -/
theorem copy_str (w : World) (base g n : Nat) (ys : List UInt8) (s : ByteArray) (h : w.ownsRow base 5 1 (.slice (some ⟨g, 0, none⟩) n n) n (bs ys)) :
    ∃ w' zs, (∀ ty, (Builtin.copy_ #[60, 9] ty #[.slice (some ⟨g, 0, none⟩) n n, .string s]).run Tryd.prog w = .ok (goInt (Nat.min s.size n)) w') ∧ w'.ownsRow base 5 1 (.slice (some ⟨g, 0, none⟩) n n) n (bs zs) ∧ zs.length = n ∧ Below base w w' := by
  obtain ⟨hg, hbg, hl⟩ := block_of_owns h
  have hm : n ≤ maxLen := by
    obtain ⟨_, h2 | ⟨_, cap, _, h3, _, _, h6, h7, _⟩⟩ := h
    · simp at h2
    · exact Nat.le_trans h6 h7
  have hyl : ys.length = n := by rw [← hl, bs_length]
  obtain ⟨k, hk⟩ : ∃ k, k = Nat.min s.size n := ⟨_, rfl⟩
  have hkn : k ≤ n := by rw [hk]; exact Nat.min_le_right _ _
  have hks : k ≤ s.size := by rw [hk]; exact Nat.min_le_left _ _
  have hlen : (bs (s.data.toList.take k)).length = k := by
    rw [bs_length, List.length_take]; have : s.data.toList.length = s.size := rfl; omega
  have hst := run_storeCells_at Tryd.prog g 0 5 (bs (s.data.toList.take k)) 0 (bs ys).toArray w hg (by rw [hlen, List.size_toArray, hl]; omega) (bs_one _)
  rw [hlen] at hst
  simp only [Nat.add_zero, Nat.zero_add] at hst
  have e : (bs ys).toArray.toList.take 0 ++ bs (s.data.toList.take k) ++ (bs ys).toArray.toList.drop k = bs (s.data.toList.take k ++ ys.drop k) := by simp [bs, List.map_drop]
  refine ⟨w.setRow g (bs (s.data.toList.take k ++ ys.drop k)).toArray, s.data.toList.take k ++ ys.drop k, ?_, ?_, ?_, below_setRow (Below.refl _ _) hbg _⟩
  · intro ty
    have hq := Tryd.size5
    cases hqi : Tryd.prog.info? 5 with
    | none => simp [hqi] at hq
    | some i =>
      rw [← hk]
      have htk : List.take k (List.map (fun b : UInt8 => Value.int IntKind.u8 (b.toNat : Int)) s.data.toList) = bs (s.data.toList.take k) := by simp [bs, List.map_take]
      simp [Builtin.copy_, run_underlying Tryd.underlying60, Builtin.lenOf, Builtin.firstCells, sizeOf, typeInfo, hqi, ← hk]
      have e' : (List.take 0 (bs ys) ++ bs (List.take k s.data.toList) ++ List.drop k (bs ys)) = bs (List.take k s.data.toList ++ List.drop k ys) := by simpa using e
      rw [htk, hst, e']
      rfl
  · refine owns_of_block (by rw [setRow_heap w g _ _ _ _ hg]) hbg ?_ hm
    rw [bs_length, List.length_append, List.length_drop, List.length_take]; have : s.data.toList.length = s.size := rfl; omega
  · rw [List.length_append, List.length_drop, List.length_take]; have : s.data.toList.length = s.size := rfl; omega

theorem xorL_getD (a b : List UInt8) (h : a.length = b.length) (k : Nat) : (xorL a b).getD k 0 = a.getD k 0 ^^^ b.getD k 0 := by
  by_cases hk : k < a.length
  · simp [xorL, hk]
  · have h1 : a[k]? = none := List.getElem?_eq_none (by omega)
    have h2 : b[k]? = none := List.getElem?_eq_none (by omega)
    have h3 : (xorL a b)[k]? = none := List.getElem?_eq_none (by simp [xorL]; omega)
    simp [h1, h2, h3]

/-- Pieces of an exclusive or. -/
theorem split_xor (v w a b : List UInt8) (mode t l n i : Nat) (hi : i < n) (hg : 0 < Cof.gsize mode t l) (hv : v.length = w.length) (hab : a.length = b.length) (ha : a.length = Cof.tsize mode t * Cof.ngroups mode t l v.length) :
    (Cof.split (xorL v w) mode t l n (xorL a b)).getD i [] = xorL ((Cof.split v mode t l n a).getD i []) ((Cof.split w mode t l n b).getD i []) := by
  have lx : (xorL v w).length = v.length := by simp [xorL]
  have la : (xorL a b).length = a.length := by simp [xorL]
  rw [Cof.split_row _ _ _ _ _ _ _ hi hg (by rw [lx, la]; exact ha), Cof.split_row _ _ _ _ _ _ _ hi hg ha, Cof.split_row _ _ _ _ _ _ _ hi hg (by rw [← hv, ← hab]; exact ha), lx, ← hv]
  conv => rhs; unfold xorL
  rw [List.length_map, List.length_range]
  apply List.map_congr_left
  intro g hgm
  have hgl := List.mem_range.1 hgm
  rw [Cof.piece_linear v w a b _ _ mode t l i g (xorL_getD v w hv) (xorL_getD a b hab)]
  simp [hgl]

theorem piece_whole (v xi : ByteArray) (tape : List UInt8) (j : Nat) (hj : j < 8) (h : xi.data.toList = (List.range (Cof.ngroups 0 1 1 v.size)).map (Cof.pieceAt v.data.toList tape 0 1 1 j)) : xi = v := by
  have e : (List.range (Cof.ngroups 0 1 1 v.size)).map (Cof.pieceAt v.data.toList tape 0 1 1 j) = v.data.toList := by
    have : Cof.ngroups 0 1 1 v.size = v.data.toList.length := by simp [Cof.ngroups, Cof.gsize]
    rw [this]
    apply List.ext_getElem
    · simp
    · intro i h1 h2
      rw [List.getElem_map, Cof.piece_one _ _ _ _ hj]
      simp at h1 h2 ⊢
      simp [h2]
  rw [e] at h
  cases xi with
  | mk a => cases v with
    | mk b => congr; exact Array.toList_inj.1 h

theorem piece_cells {w : World} {base k : Nat} {x : Value} {rows : List (List UInt8)} (h : w.ownsRow base 57 2 x k (pcs rows (List.range k))) (h0 : 0 < k) :
    ∃ g c, x = .slice (some ⟨g, 0, none⟩) k c ∧ g < w.heap.size ∧ ∀ i, i < k → w.cell? ⟨g, i * 2 + 1, none⟩ = some (str (rows.getD i [])) := by
  obtain ⟨g, c, rfl, h1, h2⟩ := h.form h0
  refine ⟨g, c, rfl, h2, fun i hi => ?_⟩
  rw [h.cellAt (i * 2 + 1) (by omega), (pcs_at rows (List.range k) i (by simpa using hi)).2]
  simp

theorem range_snoc (k : Nat) : ints (List.range (k + 1)) = ints (List.range k) ++ [.int .i64 (k : Int)] := by simp [ints, List.range_succ]

theorem Tryd.infoInt : (Tryd.prog.info? 3).map (fun i => (i.zero, i.size, i.bytes)) = some (some (.int .i64 0), 1, 8) := by kernel_rfl

set_option maxRecDepth 100000 in
set_option maxHeartbeats 1000000 in
theorem plain_any (rn m t l : Int) (value other rt ro : ByteArray) (w : World) (hrn : I64 rn) (hm : I64 m) (ht : I64 t) (hl : I64 l) (h1 : rt.size ≤ maxLen) (h2 : ro.size ≤ maxLen) :
    Calls Tryd.prog 7 #[.int .i64 rn, .agg #[.int .i64 m, .int .i64 t, .int .i64 l], .string value, .string other, .string rt, .string ro] w fun e w' => e = .returned (.bool true) ∧ Below w.heap.size w w' := by
  obtain ⟨i0, hi, hz0, hz1, hz2⟩ := info_parts Tryd.info5
  obtain ⟨iI, hiI, hy0, hy1, hy2⟩ := info_parts Tryd.infoInt
  have hq8 := pickN_lt rn 8 (by omega)
  go_enter Tryd.func7, Tryd.ntmps7
  go_wp2_with fail
  refine (pick_any rn 8 _ hrn.1 hrn.2 (by omega) (by omega)).mono ?_
  rintro e w0 ⟨rfl, rfl⟩
  generalize pickN rn 8 = q at *
  obtain ⟨n, hn⟩ : ∃ n, n = 1 + q := ⟨_, rfl⟩
  have hni : 1 + (q : Int) = (n : Int) := by omega
  have hn1 : 1 ≤ n := by omega
  have hn8 : n ≤ 8 := by omega
  clear hn
  go_wp2_with fail
  refine (plan_any m t l n _ hm ht hl hn1 hn8).mono ?_
  rintro e w1 ⟨rfl, hb1⟩
  have hplan := plan_is m t l n hn1 hn8
  generalize pMode m = mode at *
  generalize pT t n = T at *
  generalize pL m t l n = L at *
  have hb01 : Below w.heap.size w w1 := ((Below.refl _ _).alloc (Nat.le_refl _) _).trans (hb1.mono (by simp))
  have hz01 : w.heap.size ≤ w1.heap.size := hb01.size
  clear hb1
  go_wp2_with fail
  refine (short_any value 60 _ (by omega)).mono ?_
  rintro e w0' ⟨rfl, rfl⟩
  have hv60 : (value.extract 0 60).size ≤ 60 := by simp; omega
  generalize value.extract 0 60 = v at *
  go_wp2_with (first | (at_make; refine wpList_make_full _ rfl (.tmp 39) (.tmp 39) 60 rfl (w1.heap.size + 1) 5 i0 (.int .u8 0) 1 Tryd.underlying60 hi hz0 hz1 .i64 .i64 _ _ v.size rfl rfl rfl rfl (by rw [hz2]; omega) (by unfold maxLen; omega) (by simp) ?_; intro w2 hown2 hgrow2; have hb12 := grown_below hgrow2; rw [show (w1.alloc (.cells #[.int .i64 mode, .int .i64 T, .int .i64 L] 23)).heap.size = w1.heap.size + 1 from by simp] at hown2 hb12; obtain ⟨w3, zs, hcopy, hown3, hzl, hb3⟩ := copy_str w2 _ _ v.size _ other (made_row hown2); have HO3 := hid hown3; have HZL := hid hzl; clear hown2 hgrow2 hown3 hzl; have hba := (Below.refl w1.heap.size w1).alloc (Nat.le_refl _) (.cells #[.int .i64 mode, .int .i64 T, .int .i64 L] 23); have p0 : w3.cell? ⟨w1.heap.size, 0, none⟩ = some (.int .i64 mode) := (hb3.cell (by show w1.heap.size < _; omega)).trans ((hb12.cell (by show w1.heap.size < _; omega)).trans (by simp)); have p1 : w3.cell? ⟨w1.heap.size, 1, none⟩ = some (.int .i64 T) := (hb3.cell (by show w1.heap.size < _; omega)).trans ((hb12.cell (by show w1.heap.size < _; omega)).trans (by simp)); have p2 : w3.cell? ⟨w1.heap.size, 2, none⟩ = some (.int .i64 L) := (hb3.cell (by show w1.heap.size < _; omega)).trans ((hb12.cell (by show w1.heap.size < _; omega)).trans (by simp)); have hb03 : Below w.heap.size w w3 := hb01.trans ((hba.mono hz01).trans ((hb12.mono (by omega)).trans (hb3.mono (by omega))))) | fail)
  refine (tape_any rt mode T L n v.size _ hplan hv60 h1).mono ?_
  rintro e w4 ⟨sa, rfl, hsa, hb4⟩
  have hz3 : w1.heap.size + 1 < w3.heap.size := (HO3.out.lt _ rfl).2
  have q0 : w4.cell? ⟨w1.heap.size, 0, none⟩ = some (.int .i64 mode) := (hb4.cell (by show w1.heap.size < _; omega)).trans p0
  have q1 : w4.cell? ⟨w1.heap.size, 1, none⟩ = some (.int .i64 T) := (hb4.cell (by show w1.heap.size < _; omega)).trans p1
  have q2 : w4.cell? ⟨w1.heap.size, 2, none⟩ = some (.int .i64 L) := (hb4.cell (by show w1.heap.size < _; omega)).trans p2
  have hz4 := hb4.size
  have HSA := hid hsa
  clear hsa hcopy hba hb12 hb3 p0 p1 p2
  go_wp2_with fail
  refine (tape_any ro mode T L n v.size _ hplan hv60 h2).mono ?_
  rintro e w5 ⟨sb, rfl, hsb, hb5⟩
  have r0 : w5.cell? ⟨w1.heap.size, 0, none⟩ = some (.int .i64 mode) := (hb5.cell (by show w1.heap.size < _; omega)).trans q0
  have r1 : w5.cell? ⟨w1.heap.size, 1, none⟩ = some (.int .i64 T) := (hb5.cell (by show w1.heap.size < _; omega)).trans q1
  have r2 : w5.cell? ⟨w1.heap.size, 2, none⟩ = some (.int .i64 L) := (hb5.cell (by show w1.heap.size < _; omega)).trans q2
  have hz5 := hb5.size
  have HSB := hid hsb
  have hrdW : Rd w5 (some ⟨w1.heap.size + 1, 0, none⟩) (bs zs) := ((owns_rd HO3.out).below hb4 (Nat.le_refl _)).below hb5 (Nat.le_refl _)
  have hb05 : Below w.heap.size w w5 := hb03.trans ((hb4.mono (by omega)).trans (hb5.mono (by omega)))
  clear hsb q0 q1 q2 hb4 hb5 HO3
  go_wp2_with fail
  go_loopw [19, 20] (fun o i wr => ∃ k : Nat, k ≤ n ∧ i = .int .i64 k ∧ wr.ownsRow w5.heap.size 3 1 o k (ints (List.range k)) ∧ Below w5.heap.size w5 wr)
    (fun _ i _ => n - (intOf i).toNat)
  case atStart => exact ⟨0, Nat.zero_le _, rfl, World.ownsRow_nil _ _ _ _, Below.refl _ _⟩
  case round =>
    obtain ⟨k, hk, rfl, hown, hbel⟩ := hrel
    have hzb := hbel.size
    by_cases hlt : k < n
    · have HO := hid hown
      have HSN := hid (range_snoc k)
      generalize ints (List.range k) = xs at *
      clear hown
      go_wp2_with (first | (at_builtin; refine wpList_append_own _ rfl (.tmp 59) (.tmp 61) 47 rfl w5.heap.size 3 iI (.int .i64 0) 1 8 Tryd.underlying47 hiI hy0 hy1 hy2 rfl (by decide) _ _ _ rfl (HO.out.alloc _) ⟨wr.heap.size, 0, none⟩ 1 1 [.int .i64 k] rfl rfl (World.news_of_block (cs := #[.int .i64 k]) (t := 3) (fr := (0, 0)) (heap_alloc_new wr _)) (by simp [Value.oneCell']) (by unfold maxLen; omega) (by omega) (by simp; omega) ?_; intro v6 w6 hown6 hgrow6 _; have hb6 : Below w5.heap.size w5 w6 := (hbel.alloc hzb _).grown hgrow6 (by simp; omega) (fun b hb => (HO.out.lt b hb).1); rw [← HSN.out] at hown6; have HO6 := hid hown6; clear hown6 hgrow6) | fail)
      go_roundw
      case rel => exact ⟨k + 1, by omega, by go_num, HO6.out, hb6⟩
      case measure => simp [intOf]; omega
    · have hkn : k = n := by omega
      subst hkn
      obtain ⟨aA, cA, rfl, hrdA⟩ := owns_any_rd hown
      clear hown
      have s0 : wr.cell? ⟨w1.heap.size, 0, none⟩ = some (.int .i64 mode) := (hbel.cell (by show w1.heap.size < _; omega)).trans r0
      have s1 : wr.cell? ⟨w1.heap.size, 1, none⟩ = some (.int .i64 T) := (hbel.cell (by show w1.heap.size < _; omega)).trans r1
      have s2 : wr.cell? ⟨w1.heap.size, 2, none⟩ = some (.int .i64 L) := (hbel.cell (by show w1.heap.size < _; omega)).trans r2
      have hrdW1 := hrdW.below hbel (Nat.le_refl _)
      have hb0r : Below w.heap.size w wr := hb05.trans (hbel.mono (by omega))
      obtain ⟨wb, hwb⟩ : ∃ wb : ByteArray, wb = ⟨zs.toArray⟩ := ⟨_, rfl⟩
      have hwz : wb.size = v.size := by rw [hwb, ← HZL.out]; rfl
      have HWB := hid hwb
      have HWZ := hid hwz
      clear hwb hwz
      clear r0 r1 r2 hrdW
      go_wp2_with fail
      refine (pieces_ok mode T L k v sa (List.range k) aA k cA _ hplan hv60 (by rw [HSA.out]; exact Nat.le_refl _) (by simp) hrdA (by simp) (by omega)).mono ?_
      rintro e w7 ⟨x, rfl, hown7, hb7⟩
      have hz7 := hb7.size
      have t0 : w7.cell? ⟨w1.heap.size, 0, none⟩ = some (.int .i64 mode) := (hb7.cell (by show w1.heap.size < _; omega)).trans s0
      have t1 : w7.cell? ⟨w1.heap.size, 1, none⟩ = some (.int .i64 T) := (hb7.cell (by show w1.heap.size < _; omega)).trans s1
      have t2 : w7.cell? ⟨w1.heap.size, 2, none⟩ = some (.int .i64 L) := (hb7.cell (by show w1.heap.size < _; omega)).trans s2
      have hrdW7 := hrdW1.below hb7 (Nat.le_refl _)
      have hconv7 := conv_string w7 _ v.size v.size zs HZL.out.symm hrdW7
      rw [← HWB.out] at hconv7
      have HO7 := hid hown7
      clear hown7
      go_wp2_with fail
      refine (pieces_ok mode T L k wb sb (List.range k) aA k cA _ hplan (by rw [HWZ.out]; exact hv60) (by rw [HWZ.out, HSB.out]; exact Nat.le_refl _) (by simp) (by exact hrdA.below hb7 (Nat.le_refl _)) (by simp) (by omega)).mono ?_
      rintro e w8 ⟨y, rfl, hown8, hb8⟩
      have hz8 := hb8.size
      have v0 : w8.cell? ⟨w1.heap.size, 0, none⟩ = some (.int .i64 mode) := (hb8.cell (by show w1.heap.size < _; omega)).trans t0
      have v1 : w8.cell? ⟨w1.heap.size, 1, none⟩ = some (.int .i64 T) := (hb8.cell (by show w1.heap.size < _; omega)).trans t1
      have v2 : w8.cell? ⟨w1.heap.size, 2, none⟩ = some (.int .i64 L) := (hb8.cell (by show w1.heap.size < _; omega)).trans t2
      have hconvB : ∀ W, Below w8.heap.size w8 W → (convert 60 9 (.slice (some ⟨w1.heap.size + 1, 0, none⟩) v.size v.size)).run Tryd.prog W = .ok (.string wb) W := fun W hW => by
        rw [HWB.out]; exact conv_string W _ v.size v.size zs HZL.out.symm ((hrdW7.below hb8 (Nat.le_refl _)).below hW (Nat.le_refl _))
      have HCB := hid hconvB
      have hmm : Cof.tsize mode T * Cof.ngroups mode T L v.size ≤ 8 * 60 := Nat.mul_le_mul (by obtain ⟨_, _, _, _, _, h6⟩ := hplan; unfold Cof.tsize; split <;> omega) (ngroups_le hplan v.size hv60)
      have hsa8 : sa.size ≤ 480 := by rw [HSA.out]; omega
      have HO8 := hid hown8
      clear hown8 hconvB hconv7 s0 s1 s2 t0 t1 t2
      go_wp2_with fail
      go_region_held3 (fun w' => w'.cell? ⟨w1.heap.size, 0, none⟩ = some (.int .i64 mode) ∧ w'.cell? ⟨w1.heap.size, 1, none⟩ = some (.int .i64 T) ∧ w'.cell? ⟨w1.heap.size, 2, none⟩ = some (.int .i64 L) ∧ Sem.run Tryd.prog (convert 60 9 (.slice (some ⟨w1.heap.size + 1, 0, none⟩) v.size v.size)) w' = .ok (.string wb) w') (first | exact ⟨z0, z1, z2, HCB.out _ hb811⟩ | exact ⟨y0, y1, y2, HCB.out _ hb810⟩ | exact ⟨x0, x1, x2, HCB.out _ hb89⟩ | exact ⟨v0, v1, v2, HCB.out _ (Below.refl _ _).drew⟩ | exact ⟨v0, v1, v2, HCB.out _ (Below.refl _ _)⟩ | go_keep)
        (first
          | (go_at_call_of 28 (Value.string v); refine (xor_any v wb _ HWZ.out.symm (by omega)).mono ?_; rintro e w9 ⟨rfl, hb9⟩; have hz9 : w8.heap.size ≤ w9.heap.size := hb9.size; have hb89 : Below w8.heap.size w8 w9 := ((Below.refl _ _).drew).trans hb9; have x0 : w9.cell? ⟨w1.heap.size, 0, none⟩ = some (.int .i64 mode) := (hb89.cell (by show w1.heap.size < _; omega)).trans v0; have x1 : w9.cell? ⟨w1.heap.size, 1, none⟩ = some (.int .i64 T) := (hb89.cell (by show w1.heap.size < _; omega)).trans v1; have x2 : w9.cell? ⟨w1.heap.size, 2, none⟩ = some (.int .i64 L) := (hb89.cell (by show w1.heap.size < _; omega)).trans v2; clear hb9; have HXZ := hid (xor_size v wb); generalize hxv : (⟨(xorL v.data.toList wb.data.toList).toArray⟩ : ByteArray) = xv at HXZ ⊢; have HXV := hid hxv; clear hxv)
          | (go_at_call_of 28 (Value.string sa); refine (xor_any sa sb _ (by rw [HSA.out, HSB.out]) (by omega)).mono ?_; rintro e w10 ⟨rfl, hb10⟩; have hz10 : w9.heap.size ≤ w10.heap.size := hb10.size; have hb810 : Below w8.heap.size w8 w10 := hb89.trans (hb10.mono hz9); have y0 : w10.cell? ⟨w1.heap.size, 0, none⟩ = some (.int .i64 mode) := (hb10.cell (by show w1.heap.size < _; omega)).trans x0; have y1 : w10.cell? ⟨w1.heap.size, 1, none⟩ = some (.int .i64 T) := (hb10.cell (by show w1.heap.size < _; omega)).trans x1; have y2 : w10.cell? ⟨w1.heap.size, 2, none⟩ = some (.int .i64 L) := (hb10.cell (by show w1.heap.size < _; omega)).trans x2; clear hb10; have HAZ := hid (xor_size sa sb); generalize hxa : (⟨(xorL sa.data.toList sb.data.toList).toArray⟩ : ByteArray) = xa at HAZ ⊢; have HXA := hid hxa; clear hxa)
          | (go_at_call 22; refine (pieces_ok mode T L k xv xa (List.range k) aA k cA _ hplan (by rw [HXZ.out]; exact hv60) (by rw [HXZ.out, HAZ.out, HSA.out]; exact Nat.le_refl _) (by simp) (by exact ((hrdA.below hb7 (Nat.le_refl _)).below hb8 (Nat.le_refl _)).below hb810 (Nat.le_refl _)) (by simp) (by omega)).mono ?_; rintro e w11 ⟨z, rfl, hown11, hb11⟩; have hz11 : w10.heap.size ≤ w11.heap.size := hb11.size; have hb811 : Below w8.heap.size w8 w11 := hb810.trans (hb11.mono (by omega)); have z0 : w11.cell? ⟨w1.heap.size, 0, none⟩ = some (.int .i64 mode) := (hb11.cell (by show w1.heap.size < _; omega)).trans y0; have z1 : w11.cell? ⟨w1.heap.size, 1, none⟩ = some (.int .i64 T) := (hb11.cell (by show w1.heap.size < _; omega)).trans y1; have z2 : w11.cell? ⟨w1.heap.size, 2, none⟩ = some (.int .i64 L) := (hb11.cell (by show w1.heap.size < _; omega)).trans y2; have HO11 := hid hown11; clear hown11 hb11))
      obtain ⟨gx, cx, rfl, hgx, hcx⟩ := piece_cells HO7.out hn1
      obtain ⟨gy, cy, rfl, hgy, hcy⟩ := piece_cells HO8.out hn1
      obtain ⟨gz, cz, rfl, hgz, hcz⟩ := piece_cells HO11.out hn1
      have hgs : 0 < Cof.gsize mode T L := by have := hplan.t1; have := hplan.l1; unfold Cof.gsize; split <;> omega
      have hxs : ∀ i, i < k → (Cof.split v.data.toList mode T L k sa.data.toList).getD i [] = (List.range (Cof.ngroups mode T L v.size)).map (Cof.pieceAt v.data.toList sa.data.toList mode T L i) := fun i hi => Cof.split_row _ _ _ _ _ _ _ hi hgs HSA.out
      have hys : ∀ i, i < k → ((Cof.split wb.data.toList mode T L k sb.data.toList).getD i []).length = Cof.ngroups mode T L v.size := fun i hi => by
        rw [Cof.split_row wb.data.toList sb.data.toList _ _ _ _ _ hi hgs (by show sb.size = _ * Cof.ngroups mode T L wb.size; rw [HWZ.out]; exact HSB.out)]
        simp; show Cof.ngroups mode T L wb.size = _; rw [HWZ.out]
      have hzs : ∀ i, i < k → (Cof.split xv.data.toList mode T L k xa.data.toList).getD i [] = xorL ((Cof.split v.data.toList mode T L k sa.data.toList).getD i []) ((Cof.split wb.data.toList mode T L k sb.data.toList).getD i []) := fun i hi => by
        rw [← HXV.out, ← HXA.out]
        exact split_xor v.data.toList wb.data.toList sa.data.toList sb.data.toList mode T L k i hi hgs (by show v.size = wb.size; rw [HWZ.out]) (by show sa.size = sb.size; rw [HSA.out, HSB.out]) HSA.out
      have hng := ngroups_le hplan v.size hv60
      obtain ⟨G, hG⟩ : ∃ G, G = Cof.ngroups mode T L v.size := ⟨_, rfl⟩
      rw [← hG] at hxs hys hng
      have HG := hid hG
      have HXS := hid hxs
      have HYS := hid hys
      have HZS := hid hzs
      have HCX : Hid (∀ i, i < k → w11.cell? ⟨gx, i * 2 + 1, none⟩ = _) := fun i hi => ((hb8.trans (hb811.mono hz8)).cell (by exact hgx)).trans (hcx i hi)
      have HCY : Hid (∀ i, i < k → w11.cell? ⟨gy, i * 2 + 1, none⟩ = _) := fun i hi => (hb811.cell (by exact hgy)).trans (hcy i hi)
      have HCZ := hid hcz
      have hgx11 : gx < w11.heap.size := by omega
      have hgy11 : gy < w11.heap.size := by omega
      have hb011 : Below w.heap.size w w11 := hb0r.trans ((hb7.mono hb0r.size).trans ((hb8.mono (by have := hb0r.size; omega)).trans (hb811.mono (by have := hb0r.size; omega))))
      clear hG hxs hys hzs hcx hcy hcz HO7 HO8 HO11 hrdW1 hrdW7 hrdA v0 v1 v2 x0 x1 x2 y0 y1 y2 hb89 hb810 hb811 hb7 hb8 hb0r hb05 hb03 hb01 hbel
      go_wp2_with fail
      go_loopw [27] (fun i wq => ∃ j : Nat, j ≤ k ∧ i = .int .i64 j ∧ Below w11.heap.size w11 wq)
        (fun i _ => k - (intOf i).toNat)
      case atStart => exact ⟨0, Nat.zero_le _, rfl, Below.refl _ _⟩
      case round =>
        obtain ⟨j, hj, rfl, hbq⟩ := hrel
        by_cases hjk : j < k
        · obtain ⟨xi, hxi⟩ : ∃ xi : ByteArray, xi = ⟨((Cof.split v.data.toList mode T L k sa.data.toList).getD j []).toArray⟩ := ⟨_, rfl⟩
          obtain ⟨yi, hyi⟩ : ∃ yi : ByteArray, yi = ⟨((Cof.split wb.data.toList mode T L k sb.data.toList).getD j []).toArray⟩ := ⟨_, rfl⟩
          obtain ⟨zi, hzi⟩ : ∃ zi : ByteArray, zi = ⟨((Cof.split xv.data.toList mode T L k xa.data.toList).getD j []).toArray⟩ := ⟨_, rfl⟩
          have cxj : wr.cell? ⟨gx, j * 2 + 1, none⟩ = some (.string xi) := by rw [hbq.cell (by exact hgx11), HCX.out j hjk, hxi]; rfl
          have cyj : wr.cell? ⟨gy, j * 2 + 1, none⟩ = some (.string yi) := by rw [hbq.cell (by exact hgy11), HCY.out j hjk, hyi]; rfl
          have czj : wr.cell? ⟨gz, j * 2 + 1, none⟩ = some (.string zi) := by rw [hbq.cell (by exact hgz), HCZ.out j hjk, hzi]; rfl
          have c0 : wr.cell? ⟨w1.heap.size, 0, none⟩ = some (.int .i64 mode) := (hbq.cell (by show w1.heap.size < _; omega)).trans z0
          have c1 : wr.cell? ⟨w1.heap.size, 1, none⟩ = some (.int .i64 T) := (hbq.cell (by show w1.heap.size < _; omega)).trans z1
          have c2 : wr.cell? ⟨w1.heap.size, 2, none⟩ = some (.int .i64 L) := (hbq.cell (by show w1.heap.size < _; omega)).trans z2
          have hxl : xi.data.toList = (List.range G).map (Cof.pieceAt v.data.toList sa.data.toList mode T L j) := by rw [hxi]; simpa using HXS.out j hjk
          have hxz : xi.size = G := by show xi.data.size = G; rw [← Array.length_toList, hxl]; simp
          have hyz : yi.size = G := by show yi.data.size = G; rw [← Array.length_toList, hyi]; simpa using HYS.out j hjk
          have hze : (⟨(xorL xi.data.toList yi.data.toList).toArray⟩ : ByteArray) = zi := by rw [hzi, HZS.out j hjk, hxi, hyi]
          have HXI := hid hxl
          have HXZ2 := hid hxz
          have HYZ := hid hyz
          have HZE := hid hze
          have hj0 : (0 : Int) ≤ (j : Int) := by omega
          have hj1 : (j : Int) < (k : Int) := by omega
          have hzq := hbq.size
          clear hxi hyi hzi hxl hxz hyz hze
          go_wp2_with fail
          go_region_held3 (fun w' => w'.cell? ⟨gx, j * 2 + 1, none⟩ = some (.string xi) ∧ w'.cell? ⟨gy, j * 2 + 1, none⟩ = some (.string yi) ∧ w'.cell? ⟨gz, j * 2 + 1, none⟩ = some (.string zi)) (first | exact ⟨d0, d1, d2⟩ | go_keep)
            (first | (go_at_call 28; refine (xor_any xi yi _ (by rw [HXZ2.out, HYZ.out]) (by rw [HXZ2.out]; omega)).mono ?_; rintro e w12 ⟨rfl, hb12⟩; rw [HZE.out]; have d0 : w12.cell? ⟨gx, j * 2 + 1, none⟩ = some (.string xi) := (hb12.cell (by show gx < wr.heap.size; omega)).trans cxj; have d1 : w12.cell? ⟨gy, j * 2 + 1, none⟩ = some (.string yi) := (hb12.cell (by show gy < wr.heap.size; omega)).trans cyj; have d2 : w12.cell? ⟨gz, j * 2 + 1, none⟩ = some (.string zi) := (hb12.cell (by show gz < wr.heap.size; omega)).trans czj))
          have hb12q : Below wr.heap.size wr w12 := ((Below.refl _ _).drew).trans hb12
          have hbw : Below w11.heap.size w11 w12 := hbq.trans (hb12q.mono hzq)
          have e0 : w12.cell? ⟨w1.heap.size, 0, none⟩ = some (.int .i64 mode) := (hb12q.cell (by show w1.heap.size < _; omega)).trans c0
          have e1 : w12.cell? ⟨w1.heap.size, 1, none⟩ = some (.int .i64 T) := (hb12q.cell (by show w1.heap.size < _; omega)).trans c1
          have e2 : w12.cell? ⟨w1.heap.size, 2, none⟩ = some (.int .i64 L) := (hb12q.cell (by show w1.heap.size < _; omega)).trans c2
          rename_i hHeld
          have HBW := hid hbw
          have HJ : Hid (j + 1 ≤ k) := hjk
          have HPL := hid hplan
          have HE1 := hid e1
          have HE2 := hid e2
          have hxz : xi.size ≤ 60 := by rw [HXZ2.out]; exact hng
          clear c0 c1 c2 cxj cyj czj d1 d2 hb12 hb12q HCX HZS HXS hmm HSB HXV HXZ HCB HWZ HZL HCZ HCY HYS hgs hplan z0 z1 z2 hbw HZE HYZ hbq hb011 HXA HAZ HWB hHeld hj e1 e2
          rcases HPL.out.md with ⟨rfl, h6⟩ | ⟨hmd, hL1⟩
          · by_cases hTL : T = 1 ∧ L = 1
            · obtain ⟨rfl, rfl⟩ := hTL
              have hxv : xi = v := piece_whole v xi sa.data.toList j (by omega) (by rw [← HG.out]; exact HXI.out)
              subst hxv
              have e1 := HE1.out
              have e2 := HE2.out
              clear HXI HG HPL HE1 HE2 h6 HSA HXZ2
              go_wp2_with fail
              refine wp_loop_rounds 1 ?_
              rcases Nat.eq_zero_or_pos xi.size with h0 | h0
              · have h0' : ((xi.size : Int)) = 0 := by omega
                rw [rounds_succ]
                go_wp2
                go_roundw
                case rel => exact ⟨j + 1, HJ.out, by go_num, HBW.out⟩
                case measure => simp [intOf]; omega
              have h0' : (0 : Int) < (xi.size : Int) := by omega
              rw [rounds_succ]
              go_wp2
              go_roundw
              case rel => exact ⟨j + 1, HJ.out, by go_num, HBW.out⟩
              case measure => simp [intOf]; omega
            · clear HXI HG HPL h6 HSA
              by_cases hT : T = 1
              · subst hT
                have hL : ((L : Int) == 1) = false := by rw [beq_eq_false_iff_ne]; intro h; exact hTL ⟨rfl, by omega⟩
                have e1 := HE1.out
                have e2 := HE2.out
                clear hTL HE1 HE2
                go_wp2_with fail
                refine wp_loop_rounds 1 ?_
                rcases Nat.eq_zero_or_pos xi.size with h0 | h0
                · have h0' : ((xi.size : Int)) = 0 := by omega
                  rw [rounds_succ]
                  go_wp2
                  go_roundw
                  case rel => exact ⟨j + 1, HJ.out, by go_num, HBW.out⟩
                  case measure => simp [intOf]; omega
                have h0' : (0 : Int) < (xi.size : Int) := by omega
                rw [rounds_succ]
                go_wp2
                go_roundw
                case rel => exact ⟨j + 1, HJ.out, by go_num, HBW.out⟩
                case measure => simp [intOf]; omega
              · have hT' : ((T : Int) == 1) = false := by rw [beq_eq_false_iff_ne]; omega
                have e1 := HE1.out
                have e2 := HE2.out
                clear hTL HE1 HE2
                go_wp2_with fail
                refine wp_loop_rounds 1 ?_
                rcases Nat.eq_zero_or_pos xi.size with h0 | h0
                · have h0' : ((xi.size : Int)) = 0 := by omega
                  rw [rounds_succ]
                  go_wp2
                  go_roundw
                  case rel => exact ⟨j + 1, HJ.out, by go_num, HBW.out⟩
                  case measure => simp [intOf]; omega
                have h0' : (0 : Int) < (xi.size : Int) := by omega
                rw [rounds_succ]
                go_wp2
                go_roundw
                case rel => exact ⟨j + 1, HJ.out, by go_num, HBW.out⟩
                case measure => simp [intOf]; omega
          · have e1 := HE1.out
            have e2 := HE2.out
            have hT8 : T ≤ 8 := by have := HPL.out.tn; omega
            have hxg : ∀ g (hg : g < xi.size), xi[g] = v.data.toList.getD (g * T + j) 0 ∨ ¬ j < T := fun g hg => by
              by_cases hjT : j < T
              · refine .inl ?_
                rw [← ba_getD xi g hg, HXI.out]
                have hg' : g < G := by rw [← HXZ2.out]; exact hg
                rw [List.getD_eq_getElem?_getD, List.getElem?_map, List.getElem?_range hg', hmd]
                exact Cof.piece_disperse _ _ _ _ _ _ hT8 hjT
              · exact .inr hjT
            have HXG := hid hxg
            have hm0 : ((mode : Int) == 0) = false := by rw [beq_eq_false_iff_ne]; omega
            have hm1 : ((mode : Int) == 1) = true := by rw [beq_iff_eq]; omega
            clear HXI HG HPL HE1 HE2 HSA HXZ2 hxg hmd hL1
            by_cases hjT : j < T
            · have hjT' : (j : Int) < (T : Int) := by omega
              go_wp2_with fail
              go_loopw [28] (fun i wq => ∃ g : Nat, g ≤ xi.size ∧ i = .int .i64 g ∧ wq = w12) (fun i _ => xi.size - (intOf i).toNat)
              case atStart => exact ⟨0, Nat.zero_le _, rfl, rfl⟩
              case round =>
                obtain ⟨g, hg, rfl, rfl⟩ := hrel
                by_cases hgl : g < xi.size
                · have hxg : xi[g] = v.data.toList.getD (g * T + j) 0 := (HXG.out g hgl).resolve_right (by omega)
                  obtain ⟨P, hP⟩ : ∃ P, P = g * T := ⟨_, rfl⟩
                  have hPi : (g : Int) * (T : Int) = (P : Int) := by rw [hP]; simp
                  have hPb : P ≤ 480 := by rw [hP]; exact Nat.mul_le_mul (show g ≤ 60 by omega) hT8
                  rw [← hP] at hxg
                  have HXE := hid hxg
                  clear hP hxg HXG
                  by_cases hin : P + j < v.size
                  · have hin' : (P : Int) + (j : Int) < (v.size : Int) := by omega
                    rw [ba_getD v (P + j) hin] at HXE
                    have hne : (((xi[g]).toNat : Int) != ((v[P + j]).toNat : Int)) = false := by rw [HXE.out]; simp
                    clear HXE
                    go_wp2
                    go_roundw
                    case rel => exact ⟨g + 1, by omega, by go_num, trivial⟩
                    case measure => simp [intOf]; omega
                  · have hin' : ¬ (P : Int) + (j : Int) < (v.size : Int) := by omega
                    have hne : (((xi[g]).toNat : Int) != 0) = false := by
                      rw [HXE.out, List.getD_eq_getElem?_getD, List.getElem?_eq_none (by show v.size ≤ _; omega)]; rfl
                    clear HXE
                    go_wp2
                    go_roundw
                    case rel => exact ⟨g + 1, by omega, by go_num, trivial⟩
                    case measure => simp [intOf]; omega
                · clear HXG
                  have hgl' : ¬ (g : Int) < (xi.size : Int) := by omega
                  go_wp2
                  go_roundw
                  case rel => exact ⟨j + 1, HJ.out, by go_num, HBW.out⟩
                  case measure => simp [intOf]; omega
            · have hjT' : ¬ (j : Int) < (T : Int) := by omega
              clear HXG
              go_wp2_with fail
              refine wp_loop_rounds 1 ?_
              rcases Nat.eq_zero_or_pos xi.size with h0 | h0
              · have h0' : ¬ (0 : Int) < (xi.size : Int) := by omega
                rw [rounds_succ]
                go_wp2
                go_roundw
                case rel => exact ⟨j + 1, HJ.out, by go_num, HBW.out⟩
                case measure => simp [intOf]; omega
              have h0' : (0 : Int) < (xi.size : Int) := by omega
              rw [rounds_succ]
              go_wp2
              go_roundw
              case rel => exact ⟨j + 1, HJ.out, by go_num, HBW.out⟩
              case measure => simp [intOf]; omega
        · go_wp2
          go_ret
          exact ⟨rfl, hb011.trans (hbq.mono hb011.size)⟩

end Go.Proofs.YtcegdgmbponapaaDoor
