/-
  The walks of cofferkeep.wanted and cofferkeep.Hides.
-/
import Derived.Test.YtcegdgmbponapaaDoorWPieces
import Derived.Test.YtcegdgmbponapaaDoorWThrough
import Derived.Test.YtcegdgmbponapaaDoorTwo
import Derived.Test.YtcegdgmbponapaaDoorHidesMath
import Derived.Laws.Closers25
import Derived.Deep.AppendLies
import Derived.BigQuiet
namespace Go.Proofs.YtcegdgmbponapaaDoor
open Go.RowKit
attribute [local go_sem ↓] Go.wp_at_zero Go.wp_at_succ

/-- The byte that the i-th store is to be dealt for a group. -/
def wantU (s : ByteArray) (g i : Nat) : UInt8 := if s.size = 0 then UInt8.ofNat (g + 3 * i) else s.data.toList.getD ((g * 7 + i) % s.size) 0

set_option maxRecDepth 100000 in
set_option maxHeartbeats 400000 in
theorem wanted_any (s : ByteArray) (g i : Nat) (w : World) (hs : s.size ≤ maxLen) (hg : g ≤ 60) (hi : i ≤ 8) :
    Calls Tryd.prog 26 #[.string s, .int .i64 g, .int .i64 i] w fun e w' => e = .returned (.int .u8 (wantU s g i).toNat) ∧ w' = w := by
  unfold maxLen at hs
  by_cases h0 : s.size = 0
  · have hre : s = ⟨#[]⟩ := by
      cases s with
      | mk d => congr; exact Array.eq_empty_of_size_eq_zero h0
    subst hre
    go_enter Tryd.func26, Tryd.ntmps26
    go_wp2
    go_ret
    refine ⟨ret_int ?_, rfl⟩
    have : wantU ⟨#[]⟩ g i = UInt8.ofNat (g + 3 * i) := by unfold wantU; exact if_pos h0
    rw [this, ← u8_int _ (by omega)]; omega
  · obtain ⟨r, hr⟩ : ∃ r, r = (g * 7 + i) % s.size := ⟨_, rfl⟩
    have hrl : r < s.size := by rw [hr]; exact Nat.mod_lt _ (by omega)
    have hri : ((g : Int) * 7 + (i : Int)) % (s.size : Int) = (r : Int) := by rw [hr]; simp
    have hrt : ((g : Int) * 7 + (i : Int)).tmod (s.size : Int) = (r : Int) := by rw [Int.tmod_eq_emod_of_nonneg (by omega)]; exact hri
    have hr1 : (r : Int) < (s.size : Int) := by omega
    have HW := hid (show wantU s g i = s[r] from by unfold wantU; rw [if_neg h0, ← hr, ba_getD s r hrl])
    have hem : s.toList.isEmpty = false := by
      rw [← decide_eq_emptyBytes]
      refine decide_eq_false ?_
      rintro rfl; exact h0 rfl
    clear hr
    go_enter Tryd.func26, Tryd.ntmps26
    go_wp2
    go_ret
    exact ⟨ret_int (by rw [HW.out]), rfl⟩

/-- The pieces that the call has been given, one by one. -/
theorem pieces_rd {w : World} {base k : Nat} {x : Value} {rows : List (List UInt8)} {ss : List Nat} (h : w.ownsRow base 57 2 x k (pcs rows ss)) (hk : ss.length = k) :
    ∃ a c, x = .slice a k c ∧ ∀ i, i < k → ∃ g, a = some ⟨g, 0, none⟩ ∧ base ≤ g ∧ g < w.heap.size ∧ w.cell? ⟨g, i * 2 + 1, none⟩ = some (.string ⟨(rows.getD (ss.getD i 0) []).toArray⟩) := by
  rcases Nat.eq_zero_or_pos k with h0 | h0
  · subst h0
    rcases h.2 with ⟨h1, _⟩ | ⟨g, cap, cur, h1, _⟩
    · exact ⟨_, _, h1, fun i hi => by omega⟩
    · exact ⟨_, _, h1, fun i hi => by omega⟩
  · obtain ⟨g, c, rfl, h1, h2⟩ := h.form h0
    refine ⟨_, _, rfl, fun i hi => ⟨g, rfl, h1, h2, ?_⟩⟩
    rw [h.cellAt (i * 2 + 1) (by omega), (pcs_at rows ss i (by omega)).2]
    have : ss.getD i 0 = ss[i]'(by omega) := by simp [show i < ss.length by omega]
    rw [this]; rfl

theorem ba_ne (x y : ByteArray) : (!(x.toList == y.toList)) = true ↔ x ≠ y := by
  rw [ByteArray.toList_eq, ByteArray.toList_eq]
  constructor
  · intro h e; subst e; simp at h
  · intro h
    have : x.data.toList ≠ y.data.toList := fun e => h (by cases x; cases y; congr; exact Array.toList_inj.1 e)
    simpa using fun e => this (by rw [e])

theorem u8_succ (b : UInt8) : ((b.toNat : Int) + 1) % 256 = ((b + 1).toNat : Int) := by
  have h := Cof.all256 (fun b => decide (((b.toNat : Int) + 1) % 256 = ((b + 1).toNat : Int))) (by decide +kernel) b
  exact of_decide_eq_true h

theorem run_snoc (s c : Nat) : Cof.run s (c + 1) = Cof.run s c ++ [UInt8.ofNat (s + c)] := by simp [Cof.run, List.range_succ]

set_option maxRecDepth 100000 in
set_option maxHeartbeats 1000000 in
theorem hides_any (rn m t l : Int) (value want : ByteArray) (aS : Option Addr) (cS kS : Nat) (zs : List Int) (w : World) (hrn : I64 rn) (ht : I64 t) (hl : I64 l) (hw : want.size ≤ maxLen)
    (eS : kS = zs.length) (hS : Rd w aS (intsZ zs)) (hz : ∀ z ∈ zs, I64 z) (hk : kS ≤ 9223372036854775807) :
    Calls Tryd.prog 6 #[.int .i64 rn, .agg #[.int .i64 m, .int .i64 t, .int .i64 l], .string value, .slice aS kS cS, .string want] w fun e w' => e = .returned (.bool true) ∧ Below w.heap.size w w' := by
  obtain ⟨i0, hi, hz0, hz1, hz2⟩ := info_parts Tryd.info5
  have hq8 := pickN_lt rn 8 (by omega)
  have ES := hid eS
  clear eS
  go_enter Tryd.func6, Tryd.ntmps6
  go_wp2_with fail
  refine (pick_any rn 8 _ hrn.1 hrn.2 (by omega) (by omega)).mono ?_
  rintro e w0 ⟨rfl, rfl⟩
  generalize pickN rn 8 = q at *
  obtain ⟨n, hn⟩ : ∃ n, n = 1 + q := ⟨_, rfl⟩
  have hni : 1 + (q : Int) = (n : Int) := by omega
  have hn1 : 1 ≤ n := by omega
  have hn8 : n ≤ 8 := by omega
  clear hn
  go_wp2_with fail
  refine (plan_any 0 t l n _ (by unfold I64; omega) ht hl hn1 hn8).mono ?_
  rintro e w1 ⟨rfl, hb1⟩
  have hplan := plan_is 0 t l n hn1 hn8
  have hmd : pMode 0 = 0 := by decide
  rw [hmd] at hplan ⊢
  generalize pT t n = T at *
  generalize pL 0 t l n = L at *
  have hb01 : Below w.heap.size w w1 := ((Below.refl _ _).alloc (Nat.le_refl _) _).trans (hb1.mono (by simp))
  have hz01 : w.heap.size ≤ w1.heap.size := hb01.size
  have hT1 := hplan.t1
  have hTn := hplan.tn
  have hL1 := hplan.l1
  have hTL : T + L ≤ n + 1 := by rcases hplan.md with ⟨_, h⟩ | ⟨h, _⟩ <;> omega
  obtain ⟨u, hu⟩ : ∃ u, u = T - 1 := ⟨_, rfl⟩
  have hui : (T : Int) - 1 = (u : Int) := by omega
  have HU := hid hu
  have HPL := hid hplan
  clear hb1 hmd hu hplan
  go_wp2_with fail
  refine (short_any value 20 _ (by omega)).mono ?_
  rintro e w0' ⟨rfl, rfl⟩
  have hv20 : (value.extract 0 20).size ≤ 20 := by simp; omega
  generalize value.extract 0 20 = v at *
  have hba := (Below.refl w1.heap.size w1).alloc (Nat.le_refl _) (.cells #[.int .i64 0, .int .i64 T, .int .i64 L] 23)
  go_wp2_with fail
  refine (chosen_any aS kS cS n u zs _ ES.out (by exact (hS.below hb01 (Nat.le_refl _)).below hba (Nat.le_refl _)) hz hk hn1 hn8 (by omega)).mono ?_
  rintro e w3 ⟨vF, few, rfl, hfl, hfn, hfs, hownF, hb3⟩
  obtain ⟨aF, cF, rfl, hrdF⟩ := owns_any_rd hownF
  have hz3 : w1.heap.size < w3.heap.size := by have := hb3.size; simp at this; omega
  have p0 : w3.cell? ⟨w1.heap.size, 0, none⟩ = some (.int .i64 0) := (hb3.cell (by simp)).trans (by simp)
  have p1 : w3.cell? ⟨w1.heap.size, 1, none⟩ = some (.int .i64 T) := (hb3.cell (by simp)).trans (by simp)
  have p2 : w3.cell? ⟨w1.heap.size, 2, none⟩ = some (.int .i64 L) := (hb3.cell (by simp)).trans (by simp)
  have hb03 : Below w.heap.size w w3 := hb01.trans ((hba.mono hz01).trans (hb3.mono (by simp; omega)))
  have HFL := hid hfl
  have HFN := hid hfn
  have HFS := hid hfs
  clear hfl hfn hfs hownF hb3 hba hb01
  have hng := ngroups_le HPL.out v.size (by omega)
  have hgr := fun w => keepGroups_any 0 T L n v.size w HPL.out (by omega)
  obtain ⟨G, hG⟩ : ∃ G, G = Cof.ngroups 0 T L v.size := ⟨_, rfl⟩
  rw [← hG] at hng hgr
  have HGR := hid hgr
  have HG := hid hG
  clear hgr hG
  go_wp2_with fail
  go_loopw [15, 16] (fun o i wr => ∃ g : Nat, g ≤ G ∧ i = .int .i64 g ∧ wr.ownsRow w3.heap.size 5 1 o (g * u) (bs (Cof.made v.data.toList L few (wantU want) g)) ∧ Below w3.heap.size w3 wr)
    (fun _ i _ => G - (intOf i).toNat)
  case atStart => exact ⟨0, Nat.zero_le _, rfl, by rw [Nat.zero_mul]; exact World.ownsRow_nil _ _ _ _, Below.refl _ _⟩
  case round =>
    obtain ⟨g, hg, rfl, hownM, hbel⟩ := hrel
    have HOM := hid hownM
    clear hownM
    have hzb := hbel.size
    have s0 : wr.cell? ⟨w1.heap.size, 0, none⟩ = some (.int .i64 0) := (hbel.cell (by exact hz3)).trans p0
    have s1 : wr.cell? ⟨w1.heap.size, 1, none⟩ = some (.int .i64 T) := (hbel.cell (by exact hz3)).trans p1
    have s2 : wr.cell? ⟨w1.heap.size, 2, none⟩ = some (.int .i64 L) := (hbel.cell (by exact hz3)).trans p2
    by_cases hlt : g < G
    · go_wp2_with (go_at_call 25; refine (HGR.out _).mono ?_; rintro e w4 ⟨rfl, hb4⟩)
      have hz4 : wr.heap.size ≤ w4.heap.size := hb4.size
      have t1 : w4.cell? ⟨w1.heap.size, 1, none⟩ = some (.int .i64 T) := (hb4.cell (by show w1.heap.size < _; omega)).trans s1
      have t2 : w4.cell? ⟨w1.heap.size, 2, none⟩ = some (.int .i64 L) := (hb4.cell (by show w1.heap.size < _; omega)).trans s2
      have hb34 : Below w3.heap.size w3 w4 := hbel.trans (hb4.mono hzb)
      obtain ⟨P, hP⟩ : ∃ P, P = g * L := ⟨_, rfl⟩
      have hPi : (g : Int) * (L : Int) = (P : Int) := by rw [hP]; simp
      have hPb : P ≤ 480 := by rw [hP]; exact Nat.mul_le_mul (show g ≤ 60 by omega) (show L ≤ 8 by omega)
      have HPP := hid hP
      clear hP hbel s0 s1 s2
      go_loopw [17, 18, 19] (fun vx vy q wq => ∃ j : Nat, j ≤ L ∧ q = .int .i64 j ∧ Two wq w4.heap.size vx vy (Cof.run 128 j) ((List.range j).map fun j => v.data.toList.getD (g * L + j) 0) ∧ Below w4.heap.size w4 wq)
        (fun _ _ q _ => L - (intOf q).toNat)
      case atStart => exact ⟨0, Nat.zero_le _, rfl, Two.start _ _, Below.refl _ _⟩
      case round =>
        obtain ⟨j, hj, rfl, htwo, hbq⟩ := hrel
        have hzq := hbq.size
        have c1 : wr.cell? ⟨w1.heap.size, 1, none⟩ = some (.int .i64 T) := (hbq.cell (by show w1.heap.size < _; omega)).trans t1
        have c2 : wr.cell? ⟨w1.heap.size, 2, none⟩ = some (.int .i64 L) := (hbq.cell (by show w1.heap.size < _; omega)).trans t2
        have HTW := hid htwo
        clear htwo
        by_cases hjl : j < L
        · obtain ⟨a, ha⟩ : ∃ a, a = UInt8.ofNat (128 + j) := ⟨_, rfl⟩
          have hai : (128 : Int) + (j : Int) = (a.toNat : Int) := by rw [ha, ← u8_int _ (by omega)]; omega
          obtain ⟨b, hbv⟩ : ∃ b, b = v.data.toList.getD (g * L + j) 0 := ⟨_, rfl⟩
          have HR1 := hid (show Cof.run 128 (j + 1) = Cof.run 128 j ++ [a] by rw [run_snoc, ha])
          have HR2 := hid (show (List.range (j + 1)).map (fun j => v.data.toList.getD (g * L + j) 0) = (List.range j).map (fun j => v.data.toList.getD (g * L + j) 0) ++ [b] by rw [List.range_succ, List.map_append, hbv]; rfl)
          have hl1 : (Cof.run 128 j).length ≤ 8 := by rw [Cof.length_run]; omega
          have hl2 : ((List.range j).map (fun j => v.data.toList.getD (g * L + j) 0)).length ≤ 8 := by simp; omega
          generalize Cof.run 128 j = X at *
          generalize (List.range j).map (fun j => v.data.toList.getD (g * L + j) 0) = Y at *
          rw [← HPP.out] at hbv
          have cw1 : ∀ c, (wr.alloc (.cells c 5)).cell? ⟨w1.heap.size, 2, none⟩ = some (.int .i64 L) := fun c => (((Below.refl wr.heap.size wr).alloc (Nat.le_refl _) (.cells c 5)).cell (by show w1.heap.size < wr.heap.size; omega)).trans c2
          by_cases hin : P + j < v.size
          · have hin' : (P : Int) + (j : Int) < (v.size : Int) := by omega
            have hbe : v[P + j] = b := by rw [hbv, ba_getD v (P + j) hin]
            clear hbv ha
            go_wp2_with (first | (at_builtin; refine wpList_append_lies _ rfl (.tmp 78) (.tmp 82) 60 rfl w4.heap.size 5 i0 (.int .u8 0) 1 1 Tryd.underlying60 hi hz0 hz1 hz2 rfl (by decide) u17 _ (bs X) rfl (HTW.out.x.alloc _) ⟨wr.heap.size, 0, none⟩ 1 1 [.int .u8 a.toNat] rfl rfl (World.news_of_block (cs := #[.int .u8 a.toNat]) (t := 5) (fr := (0, 0)) (heap_alloc_new wr _)) (by simp [Value.oneCell']) (by decide) (by unfold maxLen; omega) (by omega) (by simp; omega) (wr.heap.size + 1) (by simp) ?_; intro gx cx w5 hown5 hgrow5 hat5 _; have HT5 := hid (HTW.out.push ((Below.refl _ _).alloc (Nat.le_refl _) _) hown5 hgrow5 (by simpa using hat5)); have hb5 : Below w4.heap.size w4 w5 := (hbq.alloc hzq _).grown hgrow5 (by simp; omega) (fun b hb => (HTW.out.x.lt b hb).1); have hz5 := hb5.size; clear hown5 hgrow5 hat5) | (at_builtin; refine wpList_append_lies _ rfl (.tmp 84) (.tmp 86) 60 rfl w4.heap.size 5 i0 (.int .u8 0) 1 1 Tryd.underlying60 hi hz0 hz1 hz2 rfl (by decide) u18 _ (bs Y) rfl (HT5.out.y.alloc _) ⟨w5.heap.size, 0, none⟩ 1 1 [.int .u8 b.toNat] rfl rfl (World.news_of_block (cs := #[.int .u8 b.toNat]) (t := 5) (fr := (0, 0)) (heap_alloc_new w5 _)) (by simp [Value.oneCell']) (by decide) (by unfold maxLen; omega) (by omega) (by simp; omega) (w5.heap.size + 1) (by simp) ?_; intro gy cy w6 hown6 hgrow6 hat6 _; have HT6 := hid (HT5.out.symm.push (a := b) ((Below.refl _ _).alloc (Nat.le_refl _) _) hown6 hgrow6 (by simpa using hat6)).symm; have hb6 : Below w4.heap.size w4 w6 := (hb5.alloc hz5 _).grown hgrow6 (by simp; omega) (fun b hb => (HT5.out.y.lt b hb).1); clear hown6 hgrow6 hat6))
            go_roundw
            case rel => exact ⟨j + 1, by omega, by go_num, by rw [HR1.out, HR2.out]; exact HT6.out, hb6⟩
            case measure => simp [intOf]; omega
          · have hin' : ¬ (P : Int) + (j : Int) < (v.size : Int) := by omega
            have hb0 : b = 0 := by rw [hbv, List.getD_eq_getElem?_getD, List.getElem?_eq_none (by show v.size ≤ _; omega)]; rfl
            subst hb0
            clear hbv ha
            go_wp2_with (first | (at_builtin; refine wpList_append_lies _ rfl (.tmp 78) (.tmp 82) 60 rfl w4.heap.size 5 i0 (.int .u8 0) 1 1 Tryd.underlying60 hi hz0 hz1 hz2 rfl (by decide) u17 _ (bs X) rfl (HTW.out.x.alloc _) ⟨wr.heap.size, 0, none⟩ 1 1 [.int .u8 a.toNat] rfl rfl (World.news_of_block (cs := #[.int .u8 a.toNat]) (t := 5) (fr := (0, 0)) (heap_alloc_new wr _)) (by simp [Value.oneCell']) (by decide) (by unfold maxLen; omega) (by omega) (by simp; omega) (wr.heap.size + 1) (by simp) ?_; intro gx cx w5 hown5 hgrow5 hat5 _; have HT5 := hid (HTW.out.push ((Below.refl _ _).alloc (Nat.le_refl _) _) hown5 hgrow5 (by simpa using hat5)); have hb5 : Below w4.heap.size w4 w5 := (hbq.alloc hzq _).grown hgrow5 (by simp; omega) (fun b hb => (HTW.out.x.lt b hb).1); have hz5 := hb5.size; clear hown5 hgrow5 hat5) | (at_builtin; refine wpList_append_lies _ rfl (.tmp 84) (.tmp 86) 60 rfl w4.heap.size 5 i0 (.int .u8 0) 1 1 Tryd.underlying60 hi hz0 hz1 hz2 rfl (by decide) u18 _ (bs Y) rfl (HT5.out.y.alloc _) ⟨w5.heap.size, 0, none⟩ 1 1 [.int .u8 0] rfl rfl (World.news_of_block (cs := #[.int .u8 0]) (t := 5) (fr := (0, 0)) (heap_alloc_new w5 _)) (by simp [Value.oneCell']) (by decide) (by unfold maxLen; omega) (by omega) (by simp; omega) (w5.heap.size + 1) (by simp) ?_; intro gy cy w6 hown6 hgrow6 hat6 _; have HT6 := hid (HT5.out.symm.push (a := 0) ((Below.refl _ _).alloc (Nat.le_refl _) _) hown6 hgrow6 (by simpa using hat6)).symm; have hb6 : Below w4.heap.size w4 w6 := (hb5.alloc hz5 _).grown hgrow6 (by simp; omega) (fun b hb => (HT5.out.y.lt b hb).1); clear hown6 hgrow6 hat6))
            go_roundw
            case rel => exact ⟨j + 1, by omega, by go_num, by rw [HR1.out, HR2.out]; exact HT6.out, hb6⟩
            case measure => simp [intOf]; omega
        · have hjn : j = L := by omega
          have hj' : ¬ (j : Int) < (L : Int) := by omega
          rw [hjn] at HTW
          obtain ⟨Y0, hY0⟩ : ∃ Y0, Y0 = (List.range L).map fun j => v.data.toList.getD (g * L + j) 0 := ⟨_, rfl⟩
          rw [← hY0] at HTW
          have HY0 := hid hY0
          clear hY0 hjn
          go_wp2_with fail
          go_loopw [17, 18, 21] (fun vx vy q wq => ∃ i : Nat, i ≤ u ∧ q = .int .i64 i ∧ Two wq w4.heap.size vx vy (Cof.run 128 L ++ (few.take i).map fun f => UInt8.ofNat (f + 1)) (Y0 ++ (List.range i).map (wantU want g)) ∧ Below w4.heap.size w4 wq)
            (fun _ _ q _ => u - (intOf q).toNat)
          case atStart => exact ⟨0, Nat.zero_le _, rfl, by rw [List.take_zero, List.range_zero, List.map_nil, List.map_nil, List.append_nil, List.append_nil]; exact HTW.out, hbq⟩
          case round =>
            obtain ⟨i, hi', rfl, htwo3, hbq3⟩ := hrel
            have hzq3 := hbq3.size
            have HT3 := hid htwo3
            clear htwo3
            by_cases hiu : i < u
            · have hil : i < few.length := by rw [HFL.out]; exact hiu
              obtain ⟨bF, oF, rfl, hbF, hcF⟩ := hrdF.pos (by simp [ints]; omega)
              obtain ⟨f, hf⟩ : ∃ f, f = few[i] := ⟨_, rfl⟩
              have hfn' : f < n := by rw [hf]; exact HFS.out _ (List.getElem_mem hil)
              have hcf : wr.cell? ⟨bF, oF + i, none⟩ = some (.int .i64 f) := by rw [hbq3.cell (by show bF < w4.heap.size; omega), hb34.cell (by exact hbF), hcF i _ (ints_get _ _ hil), hf]
              obtain ⟨a, ha⟩ : ∃ a, a = UInt8.ofNat (f + 1) := ⟨_, rfl⟩
              have hai : (f : Int) + 1 = (a.toNat : Int) := by rw [ha, ← u8_int _ (by omega)]; omega
              obtain ⟨b, hbv⟩ : ∃ b, b = wantU want g i := ⟨_, rfl⟩
              have hwa := fun w => wanted_any want g i w hw (by omega) (by omega)
              rw [← hbv] at hwa
              have HWA := hid hwa
              have HR1 := hid (show Cof.run 128 L ++ (few.take (i + 1)).map (fun f => UInt8.ofNat (f + 1)) = (Cof.run 128 L ++ (few.take i).map (fun f => UInt8.ofNat (f + 1))) ++ [a] by rw [List.take_succ_eq_append_getElem hil, List.map_append, ← hf, ha, List.append_assoc]; rfl)
              have HR2 := hid (show Y0 ++ (List.range (i + 1)).map (wantU want g) = (Y0 ++ (List.range i).map (wantU want g)) ++ [b] by rw [List.range_succ, List.map_append, hbv, List.append_assoc]; rfl)
              have hl1 : (Cof.run 128 L ++ (few.take i).map (fun f => UInt8.ofNat (f + 1))).length ≤ 16 := by rw [List.length_append, Cof.length_run, List.length_map, List.length_take]; omega
              have hl2 : (Y0 ++ (List.range i).map (wantU want g)).length ≤ 16 := by rw [HY0.out]; simp; omega
              generalize Cof.run 128 L ++ (few.take i).map (fun f => UInt8.ofNat (f + 1)) = X at *
              generalize Y0 ++ (List.range i).map (wantU want g) = Y at *
              clear hbv ha hf hwa hcF
              go_wp2_with (first | (at_builtin; refine wpList_append_lies _ rfl (.tmp 94) (.tmp 101) 60 rfl w4.heap.size 5 i0 (.int .u8 0) 1 1 Tryd.underlying60 hi hz0 hz1 hz2 rfl (by decide) u17 _ (bs X) rfl (HT3.out.x.alloc _) ⟨wr.heap.size, 0, none⟩ 1 1 [.int .u8 a.toNat] rfl rfl (World.news_of_block (cs := #[.int .u8 a.toNat]) (t := 5) (fr := (0, 0)) (heap_alloc_new wr _)) (by simp [Value.oneCell']) (by decide) (by unfold maxLen; omega) (by omega) (by simp; omega) (wr.heap.size + 1) (by simp) ?_; intro g5 c5 w5 hown5 hgrow5 hat5 _; have HT5 := hid (HT3.out.push (a := a) ((Below.refl _ _).alloc (Nat.le_refl _) _) hown5 hgrow5 (by simpa using hat5)); have hb5 : Below w4.heap.size w4 w5 := (hbq3.alloc hzq3 _).grown hgrow5 (by simp; omega) (fun b hb => (HT3.out.x.lt b hb).1); have hz5 := hb5.size; clear hown5 hgrow5 hat5) | (go_at_call 26; refine (HWA.out _).mono ?_; rintro e w5' ⟨rfl, rfl⟩) | (at_builtin; refine wpList_append_lies _ rfl (.tmp 103) (.tmp 108) 60 rfl w4.heap.size 5 i0 (.int .u8 0) 1 1 Tryd.underlying60 hi hz0 hz1 hz2 rfl (by decide) u18 _ (bs Y) rfl (HT5.out.y.alloc _) ⟨w5'.heap.size, 0, none⟩ 1 1 [.int .u8 b.toNat] rfl rfl (World.news_of_block (cs := #[.int .u8 b.toNat]) (t := 5) (fr := (0, 0)) (heap_alloc_new w5' _)) (by simp [Value.oneCell']) (by decide) (by unfold maxLen; omega) (by omega) (by simp; omega) (w5'.heap.size + 1) (by simp) ?_; intro g6 c6 w6 hown6 hgrow6 hat6 _; have HT6 := hid (HT5.out.symm.push (a := b) ((Below.refl _ _).alloc (Nat.le_refl _) _) hown6 hgrow6 (by simpa using hat6)).symm; have hb6 : Below w4.heap.size w4 w6 := (hb5.alloc hz5 _).grown hgrow6 (by simp; omega) (fun b hb => (HT5.out.y.lt b hb).1); clear hown6 hgrow6 hat6))
              go_roundw
              case rel => exact ⟨i + 1, by omega, by go_num, by rw [HR1.out, HR2.out]; exact HT6.out, hb6⟩
              case measure => simp [intOf]; omega
            · have hin : i = u := by omega
              have hin' : ¬ (i : Int) < (u : Int) := by omega
              have hX : Cof.run 128 L ++ (few.take u).map (fun f => UInt8.ofNat (f + 1)) = Cof.wantX L few := by rw [List.take_of_length_le (by rw [HFL.out]; exact Nat.le_refl _)]; rfl
              have hY : Y0 ++ (List.range u).map (wantU want g) = Cof.wantY v.data.toList L few.length (wantU want) g := by rw [HY0.out, HFL.out]; rfl
              have hT : Two wr w4.heap.size u17 u18 (Cof.wantX L few) (Cof.wantY v.data.toList L few.length (wantU want) g) := by rw [← hX, ← hY]; rw [hin] at HT3; exact HT3.out
              have hMl : (Cof.made v.data.toList L few (wantU want) g).length = g * u := by rw [Cof.made_length, HFL.out]
              have hM4 := owns_below HOM.out hb4 (Nat.le_refl _)
              rw [← hMl] at hM4
              have hM5 := owns_below hM4 hbq3 (Nat.le_refl _)
              have hA : Two wr w3.heap.size u15 u17 _ _ := ⟨hM5, owns_lower hT.x hb34.size, apart_of_base hM4 hT.x (Nat.le_refl _)⟩
              have hB : Two wr w3.heap.size u15 u18 _ _ := ⟨hM5, owns_lower hT.y hb34.size, apart_of_base hM4 hT.y (Nat.le_refl _)⟩
              obtain ⟨⟨aX, cX, rfl, _⟩, ⟨aY, cY, rfl, _⟩⟩ := hT.len
              have lX : (Cof.wantX L few).length = L + u := by simp [Cof.wantX, Cof.length_run, HFL.out]
              have lY : (Cof.wantY v.data.toList L few.length (wantU want) g).length = L + u := by simp [Cof.wantY, HFL.out]
              have hnd : (Cof.wantX L few).Nodup := Cof.wantX_nodup L few (by omega) HFN.out (fun f hf => by have := HFS.out f hf; omega)
              have hMA := fun r => show Cof.madeAt v.data.toList L few (wantU want) g r = Cof.itp (Cof.wantX L few) (Cof.wantY v.data.toList L few.length (wantU want) g) (UInt8.ofNat (192 + r)) from rfl
              have hMS : Cof.made v.data.toList L few (wantU want) (g + 1) = Cof.made v.data.toList L few (wantU want) g ++ (List.range u).map (Cof.madeAt v.data.toList L few (wantU want) g) := by rw [Cof.made, HFL.out]
              rw [lX] at hA ⊢
              rw [lY] at hB ⊢
              have HMA := hid hMA
              have HMS := hid hMS
              have LX := hid lX
              have LY := hid lY
              have HND := hid hnd
              have HML := hid hMl
              have hgu : g * u ≤ 480 := Nat.mul_le_mul (show g ≤ 60 by omega) (show u ≤ 8 by omega)
              clear hin hX hY hT hMl hM4 hM5 lX lY hnd hMA hMS HT3
              generalize Cof.wantX L few = X at *
              generalize Cof.wantY v.data.toList L few.length (wantU want) g = Y at *
              generalize Cof.made v.data.toList L few (wantU want) g = M at *
              generalize Cof.madeAt v.data.toList L few (wantU want) g = F at *
              go_wp2_with fail
              go_loopw [15, 22] (fun o q wq => ∃ r : Nat, r ≤ u ∧ q = .int .i64 r ∧ Two wq w3.heap.size o (.slice aX (L + u) cX) (M ++ (List.range r).map F) X ∧ Two wq w3.heap.size o (.slice aY (L + u) cY) (M ++ (List.range r).map F) Y ∧ Below w3.heap.size w3 wq)
                (fun _ q _ => u - (intOf q).toNat)
              case atStart => exact ⟨0, Nat.zero_le _, rfl, by rw [List.range_zero, List.map_nil, List.append_nil]; exact hA, by rw [List.range_zero, List.map_nil, List.append_nil]; exact hB, hb34.trans (hbq3.mono hb34.size)⟩
              case round =>
                obtain ⟨r, hr, rfl, hA4, hB4, hbq4⟩ := hrel
                have hzq4 := hbq4.size
                have d1 : wr.cell? ⟨w1.heap.size, 1, none⟩ = some (.int .i64 T) := (hbq4.cell (by exact hz3)).trans p1
                have HA := hid hA4
                have HB := hid hB4
                clear hA4 hB4 hA hB
                by_cases hru : r < u
                · obtain ⟨x, hx⟩ : ∃ x, x = UInt8.ofNat (192 + r) := ⟨_, rfl⟩
                  have hxi : (192 : Int) + (r : Int) = (x.toNat : Int) := by rw [hx, ← u8_int _ (by omega)]; omega
                  have hth := through_any aX aY cX cY (L + u) X Y x wr LX.out.symm LY.out.symm (owns_rd_at HA.out.y) (owns_rd_at HB.out.y) HND.out (by omega)
                  obtain ⟨b, hbv⟩ : ∃ b, b = Cof.itp X Y x := ⟨_, rfl⟩
                  rw [← hbv] at hth
                  have HTH := hid hth
                  have HR := hid (show M ++ (List.range (r + 1)).map F = (M ++ (List.range r).map F) ++ [b] by rw [List.range_succ, List.map_append, List.append_assoc, List.map_cons, List.map_nil, HMA.out, ← hx, ← hbv])
                  have hzl : (M ++ (List.range r).map F).length ≤ 500 := by rw [List.length_append, HML.out]; simp; omega
                  generalize M ++ (List.range r).map F = Z at *
                  clear hbv hx hth
                  go_wp2_with (first | (go_at_call 27; refine HTH.out.mono ?_; rintro e w5 ⟨rfl, hb5⟩; have HA5 := hid (HA.out.below hb5); have HB5 := hid (HB.out.below hb5); have hb35 : Below w3.heap.size w3 w5 := hbq4.trans (hb5.mono hzq4); have hz35 := hb35.size; clear hb5) | (at_builtin; refine wpList_append_lies _ rfl (.tmp 123) (.tmp 125) 60 rfl w3.heap.size 5 i0 (.int .u8 0) 1 1 Tryd.underlying60 hi hz0 hz1 hz2 rfl (by decide) u15 _ (bs Z) rfl (HA5.out.x.alloc _) ⟨w5.heap.size, 0, none⟩ 1 1 [.int .u8 b.toNat] rfl rfl (World.news_of_block (cs := #[.int .u8 b.toNat]) (t := 5) (fr := (0, 0)) (heap_alloc_new w5 _)) (by simp [Value.oneCell']) (by decide) (by unfold maxLen; omega) (by omega) (by simp; omega) (w5.heap.size + 1) (by simp) ?_; intro g6 c6 w6 hown6 hgrow6 hat6 _; have HA6 := hid (HA5.out.push (a := b) ((Below.refl _ _).alloc (Nat.le_refl _) _) hown6 hgrow6 (by simpa using hat6)); have HB6 := hid (HB5.out.push (a := b) ((Below.refl _ _).alloc (Nat.le_refl _) _) hown6 hgrow6 (by simpa using hat6)); have hb6 : Below w3.heap.size w3 w6 := (hb35.alloc hz35 _).grown hgrow6 (by simp; omega) (fun b hb => (HA5.out.x.lt b hb).1); clear hown6 hgrow6 hat6))
                  go_roundw
                  case rel => exact ⟨r + 1, by omega, by go_num, by rw [HR.out]; exact HA6.out, by rw [HR.out]; exact HB6.out, hb6⟩
                  case measure => simp [intOf]; omega
                · have hrn' : r = u := by omega
                  have hr' : ¬ (r : Int) < (u : Int) := by omega
                  rw [hrn'] at HA
                  have hfin : wr.ownsRow w3.heap.size 5 1 u15 ((g + 1) * u) (bs (M ++ (List.range u).map F)) := by
                    have h1 := HA.out.x
                    rw [show (M ++ (List.range u).map F).length = (g + 1) * u by rw [List.length_append, HML.out]; simp [Nat.succ_mul]] at h1
                    exact h1
                  have HFI := hid hfin
                  clear hfin hrn'
                  go_wp2_with fail
                  go_roundw
                  case rel => exact ⟨g + 1, by omega, by go_num, by rw [HMS.out]; exact HFI.out, hbq4⟩
                  case measure => simp [intOf]; omega
    · have hgn : g = G := by omega
      have hg' : ¬ (g : Int) < (G : Int) := by omega
      obtain ⟨N, hN⟩ : ∃ N, N = g * u := ⟨_, rfl⟩
      obtain ⟨M, hM⟩ : ∃ M, M = Cof.made v.data.toList L few (wantU want) g := ⟨_, rfl⟩
      rw [← hN, ← hM] at HOM
      have hMl : N = M.length := by rw [hM, Cof.made_length, HFL.out, hN]
      have hN480 : N ≤ 480 := by rw [hN]; exact Nat.mul_le_mul (show g ≤ 60 by omega) (show u ≤ 8 by omega)
      obtain ⟨aM, cM, rfl, hrdM⟩ := owns_any_rd HOM.out
      obtain ⟨tp, htp⟩ : ∃ tp : ByteArray, tp = ⟨M.toArray⟩ := ⟨_, rfl⟩
      have hTD : ∀ i, i < u → (Cof.split v.data.toList 0 T L n M).getD (few.getD i 0) [] = (List.range G).map fun g => wantU want g i := fun i hi => by
        rw [hM, hgn]
        exact Cof.made_dealt v.data.toList T L n G few (wantU want) i HG.out (by rw [HFL.out]; exact HU.out) hT1 (by omega) hL1 (by omega) HFN.out (fun f hf => by have := HFS.out f hf; omega) HFS.out (by rw [HFL.out]; exact hi)
      have hTO : ∀ p x, p < N → M.getD p 0 ≠ x → ∃ i, i < u ∧ (Cof.split v.data.toList 0 T L n (M.set p x)).getD (few.getD i 0) [] ≠ (Cof.split v.data.toList 0 T L n M).getD (few.getD i 0) [] := fun p x hp hx => by
        have := Cof.other_dealt v.data.toList M T L n G few p x HG.out (by rw [HFL.out]; exact HU.out) hT1 (by omega) hL1 (by omega) HFN.out (fun f hf => by have := HFS.out f hf; omega) HFS.out (by rw [← hMl, hN, hgn, HFL.out]) (by rw [← hMl]; exact hp) hx
        rwa [HFL.out] at this
      have hNT : Cof.tsize 0 T * Cof.ngroups 0 T L v.size ≤ N := by rw [← HG.out, Cof.tsize0, hN, hgn, ← HU.out, Nat.mul_comm]; exact Nat.le_refl _
      have HTD := hid hTD
      have HTO := hid hTO
      have HNT := hid hNT
      have HML := hid hMl
      have HTP := hid htp
      have htz : tp.size = N := by rw [htp, hMl]; rfl
      have HTZ := hid htz
      clear hTD hTO hNT hMl htz hN hM hgn htp
      go_wp2_with (go_at_call 25; refine (HGR.out _).mono ?_; rintro e w4 ⟨rfl, hb4⟩; have hz4 : wr.heap.size ≤ w4.heap.size := hb4.size; have t0 : w4.cell? ⟨w1.heap.size, 0, none⟩ = some (.int .i64 0) := (hb4.cell (by show w1.heap.size < _; omega)).trans s0; have t1 : w4.cell? ⟨w1.heap.size, 1, none⟩ = some (.int .i64 T) := (hb4.cell (by show w1.heap.size < _; omega)).trans s1; have t2 : w4.cell? ⟨w1.heap.size, 2, none⟩ = some (.int .i64 L) := (hb4.cell (by show w1.heap.size < _; omega)).trans s2; have hconv4 := conv_string w4 aM cM N M HML.out (hrdM.below hb4 (Nat.le_refl _)); rw [← HTP.out] at hconv4; clear s0 s1 s2)
      have hb34 : Below w3.heap.size w3 w4 := hbel.trans (hb4.mono hzb)
      have HM4 := hid (owns_below HOM.out hb4 (Nat.le_refl _))
      refine (pieces_ok 0 T L n v tp few aF u cF _ HPL.out (by omega) (by rw [HTZ.out]; exact HNT.out) HFL.out.symm (by exact hrdF.below hb34 (Nat.le_refl _)) HFS.out (by omega)).mono ?_
      rintro e w5 ⟨x5, rfl, hown5, hb5⟩
      obtain ⟨aL, cL, rfl, hc5⟩ := pieces_rd hown5 HFL.out
      have hz5 : w4.heap.size ≤ w5.heap.size := hb5.size
      have hc5' : ∀ i, i < u → ∃ g, aL = some ⟨g, 0, none⟩ ∧ w4.heap.size ≤ g ∧ g < w5.heap.size ∧ w5.cell? ⟨g, i * 2 + 1, none⟩ = some (.string ⟨((List.range G).map fun g => wantU want g i).toArray⟩) := fun i hi => by
        rw [← HTD.out i hi]
        have := hc5 i hi
        rw [HTP.out] at this
        exact this
      have HC5 := hid hc5'
      have hb05 : Below w.heap.size w w5 := hb03.trans ((hb34.mono hb03.size).trans (hb5.mono (by have := hb03.size; omega)))
      have y0 : w5.cell? ⟨w1.heap.size, 0, none⟩ = some (.int .i64 0) := (hb5.cell (by show w1.heap.size < _; omega)).trans t0
      have y1 : w5.cell? ⟨w1.heap.size, 1, none⟩ = some (.int .i64 T) := (hb5.cell (by show w1.heap.size < _; omega)).trans t1
      have y2 : w5.cell? ⟨w1.heap.size, 2, none⟩ = some (.int .i64 L) := (hb5.cell (by show w1.heap.size < _; omega)).trans t2
      have HM5 := hid (owns_below HM4.out hb5 (Nat.le_refl _))
      have HRF := hid hrdF
      have hb35 : Below w3.heap.size w3 w5 := hb34.trans (hb5.mono hb34.size)
      have hgM4 := HM4.out.lt
      have HGM := hid hgM4
      clear hc5 hc5' hown5 hconv4 t0 t1 t2 hgM4 HM4 HOM hrdM hrdF hbel hzb HGR
      go_wp2_with fail
      go_loopw [26] (fun q wq => ∃ i : Nat, i ≤ u ∧ q = .int .i64 i ∧ wq = w5) (fun q _ => u - (intOf q).toNat)
      case atStart => exact ⟨0, Nat.zero_le _, rfl, rfl⟩
      case round =>
        obtain ⟨i, hiu, rfl, rfl⟩ := hrel
        by_cases hilt : i < u
        · obtain ⟨gl, rfl, hgl1, hgl2, hcl⟩ := HC5.out i hilt
          obtain ⟨p, hp⟩ : ∃ p : ByteArray, p = ⟨((List.range G).map fun g => wantU want g i).toArray⟩ := ⟨_, rfl⟩
          rw [← hp] at hcl
          have hpz : p.size = G := by rw [hp]; show ((List.range G).map fun g => wantU want g i).toArray.size = G; simp
          have hpg : ∀ g (h : g < p.size), p[g] = wantU want g i := fun g h => by
            have hg : g < G := by rw [← hpz]; exact h
            rw [← ba_getD p g h, hp]; simp [hg]
          have HPG := hid hpg
          have HPZ := hid hpz
          have hi1 : (i : Int) < (u : Int) := by omega
          have hp60 : p.size ≤ 60 := by rw [hpz]; exact hng
          have hiu' : i + 1 ≤ u := hilt
          clear hp hpg hpz hgl1 HC5
          go_wp2_with fail
          go_loopw [27] (fun q wq => ∃ g : Nat, g ≤ p.size ∧ q = .int .i64 g ∧ wq = wr) (fun q _ => p.size - (intOf q).toNat)
          case atStart => exact ⟨0, Nat.zero_le _, rfl, rfl⟩
          case round =>
            obtain ⟨k, hk, rfl, rfl⟩ := hrel
            by_cases hkp : k < p.size
            · have hk1 : (k : Int) < (p.size : Int) := by omega
              obtain ⟨b, hbv⟩ : ∃ b, b = wantU want k i := ⟨_, rfl⟩
              have hwa := fun w => wanted_any want k i w hw (by omega) (by omega)
              have hne : (((p[k]).toNat : Int) != (b.toNat : Int)) = false := by rw [hbv, HPG.out k hkp]; simp
              rw [← hbv] at hwa
              have HWA := hid hwa
              clear hwa hbv HPG
              go_wp2_with (go_at_call 26; refine (HWA.out _).mono ?_; rintro e w5' ⟨rfl, rfl⟩)
              go_roundw
              case rel => exact ⟨k + 1, by omega, by go_num, by first | rfl | trivial⟩
              case measure => simp [intOf]; omega
            · have hk1 : ¬ (k : Int) < (p.size : Int) := by omega
              clear HPG
              go_wp2_with fail
              go_roundw
              case rel => exact ⟨i + 1, by omega, by go_num, by first | rfl | trivial⟩
              case measure => simp [intOf]; omega
        · have hi1 : ¬ (i : Int) < (u : Int) := by omega
          rcases Nat.eq_zero_or_pos N with hN0 | hN0
          · have hNi : ((N : Int) == 0) = true := by rw [hN0]; rfl
            clear hN0
            go_wp2_with fail
            go_ret
            exact ⟨rfl, hb05⟩
          · have hNi : ((N : Int) == 0) = false := by rw [beq_eq_false_iff_ne]; omega
            obtain ⟨gM, cM', e1, hgM1, hgM2⟩ := HM5.out.form hN0
            obtain ⟨rfl, rfl⟩ : aM = some ⟨gM, 0, none⟩ ∧ cM = cM' := by injection e1 with h1 _ h2; exact ⟨h1, h2⟩
            have hw' : want.size ≤ 9223372036854775807 := hw
            go_wp2_with fail
            refine (pick_any (want.size : Int) N _ (by omega) (by omega) hN0 (by omega)).mono ?_
            rintro e w6 ⟨rfl, rfl⟩
            have hP := pickN_lt (want.size : Int) N hN0
            generalize pickN (want.size : Int) N = P at *
            have hPi : (P : Int) < (N : Int) := by omega
            obtain ⟨b, hbv⟩ : ∃ b, b = M.getD P 0 := ⟨_, rfl⟩
            have hcM : w6.cell? ⟨gM, P, none⟩ = some (.int .u8 b.toNat) := by
              rw [HM5.out.cellAt P (by omega), bs_get _ _ (by rw [← HML.out]; exact hP), ← hbv]
            have hfM := HM5.out.frozenAt P
            have hbi := u8_succ b
            have HOS := hid (HM5.out.stored P (.int .u8 (b + 1).toNat)).1
            have hset : (bs M).set P (.int .u8 (b + 1).toNat) = bs (M.set P (b + 1)) := by simp [bs, List.map_set]
            rw [hset] at HOS
            have hdif := HTO.out P (b + 1) hP (by rw [← hbv]; intro h; exact absurd h (by have := Cof.all256 (fun b => decide (b ≠ b + 1)) (by decide +kernel) b; exact of_decide_eq_true this))
            have HDIF := hid hdif
            obtain ⟨M', hM'⟩ : ∃ M', M' = M.set P (b + 1) := ⟨_, rfl⟩
            rw [← hM'] at HOS HDIF
            have hMl' : N = M'.length := by rw [hM', List.length_set]; exact HML.out
            obtain ⟨tq, htq⟩ : ∃ tq : ByteArray, tq = ⟨M'.toArray⟩ := ⟨_, rfl⟩
            have HTQ := hid htq
            have HTZ' := hid (show tq.size = N by rw [htq, hMl']; rfl)
            have hconv6 := conv_string (w6.setCell ⟨gM, P, none⟩ (.int .u8 (b + 1).toNat)) (some ⟨gM, 0, none⟩) cM N M' hMl' (owns_rd HOS.out)
            rw [← htq] at hconv6
            generalize b + 1 = c at *
            have hb6 : Below w3.heap.size w6 (w6.setCell ⟨gM, P, none⟩ (.int .u8 c.toNat)) := (Below.refl _ _).setCell (by exact hgM1) _
            have z0 : (w6.setCell ⟨gM, P, none⟩ (.int .u8 c.toNat)).cell? ⟨w1.heap.size, 0, none⟩ = some (.int .i64 0) := (hb6.cell (by exact hz3)).trans y0
            have z1 : (w6.setCell ⟨gM, P, none⟩ (.int .u8 c.toNat)).cell? ⟨w1.heap.size, 1, none⟩ = some (.int .i64 T) := (hb6.cell (by exact hz3)).trans y1
            have z2 : (w6.setCell ⟨gM, P, none⟩ (.int .u8 c.toNat)).cell? ⟨w1.heap.size, 2, none⟩ = some (.int .i64 L) := (hb6.cell (by exact hz3)).trans y2
            clear hset hdif hM' hMl' htq hbv HOS
            go_wp2_with fail
            have hb36 : Below w3.heap.size w3 (w6.setCell ⟨gM, P, none⟩ (.int .u8 c.toNat)) := hb35.trans hb6
            refine (pieces_ok 0 T L n v tq few aF u cF _ HPL.out (by omega) (by rw [HTZ'.out]; exact HNT.out) HFL.out.symm (by exact HRF.out.below hb36 (Nat.le_refl _)) HFS.out (by omega)).mono ?_
            rintro e w7 ⟨x7, rfl, hown7, hb7⟩
            obtain ⟨aK, cK, rfl, hc7⟩ := pieces_rd hown7 HFL.out
            rw [HTQ.out] at hc7
            have hz7 : w6.heap.size ≤ w7.heap.size := by have := hb7.size; simpa using this
            obtain ⟨pk, hpk⟩ : ∃ pk : Nat → ByteArray, ∀ j, pk j = ⟨((Cof.split v.data.toList 0 T L n M').getD (few.getD j 0) []).toArray⟩ := ⟨_, fun _ => rfl⟩
            obtain ⟨pc, hpc⟩ : ∃ pc : Nat → ByteArray, ∀ j, pc j = ⟨((Cof.split v.data.toList 0 T L n M).getD (few.getD j 0) []).toArray⟩ := ⟨_, fun _ => rfl⟩
            have hc5 : ∀ i, i < u → ∃ g, aL = some ⟨g, 0, none⟩ ∧ g < w7.heap.size ∧ w7.cell? ⟨g, i * 2 + 1, none⟩ = some (.string (pc i)) := fun i hi => by
              obtain ⟨g, e1, h1, h2, h3⟩ := HC5.out i hi
              refine ⟨g, e1, by omega, ?_⟩
              have hgg : gM < g := Nat.lt_of_lt_of_le (HGM.out gM rfl).2 h1
              rw [hpc, HTD.out i hi, hb7.cell (by show g < (w6.setCell _ _).heap.size; simpa using h2), ← h3]
              exact World.cell?_of_block (Below.heap_setCell w6 ⟨gM, P, none⟩ _ g (by show g ≠ gM; omega))
            have hc7' : ∀ i, i < u → ∃ g, aK = some ⟨g, 0, none⟩ ∧ g < w7.heap.size ∧ w7.cell? ⟨g, i * 2 + 1, none⟩ = some (.string (pk i)) := fun i hi => by
              obtain ⟨g, e1, h1, h2, h3⟩ := hc7 i hi
              exact ⟨g, e1, h2, by rw [hpk]; exact h3⟩
            have hdd : ∃ j, j < u ∧ pk j ≠ pc j := by
              obtain ⟨i, hi, h⟩ := HDIF.out
              refine ⟨i, hi, fun h' => h ?_⟩
              rw [hpk, hpc] at h'
              have := congrArg (fun b : ByteArray => b.data.toList) h'
              simpa using this
            have HDD := hid hdd
            have HK := hid hc7'
            have HL := hid hc5
            have hb07 : Below w.heap.size w w7 := hb05.trans ((hb6.mono hb03.size).trans (hb7.mono (by have := hb05.size; simpa using this)))
            clear hc7 hc7' hc5 hdd hpk hpc HTD HC5 HDIF HGM HRF HTQ HTZ' HTO HNT HTP HTZ hown7 hconv6 z0 z1 z2 y0 y1 y2 hb36 hb35 hb6 hb7 hcM hfM hbi HM5
            go_wp2_with fail
            go_loopw [30, 31] (fun d q wq => ∃ i : Nat, i ≤ u ∧ q = .int .i64 i ∧ (∃ t : Bool, d = .bool t ∧ (t = true ↔ ∃ j, j < i ∧ pk j ≠ pc j)) ∧ Below w7.heap.size w7 wq) (fun _ q _ => u - (intOf q).toNat)
            case atStart => exact ⟨0, Nat.zero_le _, rfl, ⟨false, rfl, by simp⟩, Below.refl _ _⟩
            case round =>
              obtain ⟨k, hk, rfl, ⟨d, rfl, hd⟩, hbq⟩ := hrel
              have HD := hid hd
              clear hd
              by_cases hku : k < u
              · have hk1 : (k : Int) < (u : Int) := by omega
                obtain ⟨gk, rfl, hgk, hck⟩ := HK.out k hku
                obtain ⟨gl, rfl, hgl, hcl⟩ := HL.out k hku
                have ck : wr.cell? ⟨gk, k * 2 + 1, none⟩ = some (.string (pk k)) := (hbq.cell (by exact hgk)).trans hck
                have cl : wr.cell? ⟨gl, k * 2 + 1, none⟩ = some (.string (pc k)) := (hbq.cell (by exact hgl)).trans hcl
                have HST := hid (show ∀ t : Bool, (t = true ↔ (d = true ∨ pk k ≠ pc k)) → (t = true ↔ ∃ j, j < k + 1 ∧ pk j ≠ pc j) from fun t ht => by
                  rw [ht, HD.out]
                  constructor
                  · rintro (⟨j, h1, h2⟩ | h)
                    · exact ⟨j, by omega, h2⟩
                    · exact ⟨k, by omega, h⟩
                  · rintro ⟨j, h1, h2⟩
                    rcases Nat.lt_or_ge j k with h3 | h3
                    · exact .inl ⟨j, h3, h2⟩
                    · have : j = k := by omega
                      subst this; exact .inr h2)
                have hku' : k + 1 ≤ u := hku
                generalize pk k = x at *
                generalize pc k = y at *
                clear hck hcl
                cases d with
                | true =>
                  go_wp2_with fail
                  go_quiet (fail)
                  go_wp2
                  go_roundw
                  case rel => exact ⟨k + 1, by omega, by go_num, ⟨true, rfl, HST.out true (by simp)⟩, below_drewN hbq _⟩
                  case measure => simp [intOf]; omega
                | false =>
                  go_wp2_with fail
                  go_quiet (fail)
                  go_wp2
                  go_roundw
                  case rel => exact ⟨k + 1, by omega, by go_num, ⟨!(x.toList == y.toList), rfl, HST.out _ (by rw [ba_ne]; simp)⟩, below_drewN hbq _⟩
                  case measure => simp [intOf]; omega
              · have hk1 : ¬ (k : Int) < (u : Int) := by omega
                have hkn : k = u := by omega
                have hdt : d = true := HD.out.2 (by rw [hkn]; exact HDD.out)
                subst hdt
                clear hkn
                go_wp2_with fail
                go_ret
                exact ⟨rfl, hb07.trans (hbq.mono hb07.size)⟩

end Go.Proofs.YtcegdgmbponapaaDoor
