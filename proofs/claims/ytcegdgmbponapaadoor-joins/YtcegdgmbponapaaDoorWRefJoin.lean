/-
  The walk of cofferref.Join.
-/
import Derived.Test.YtcegdgmbponapaaDoorWRefValue
import Derived.Test.YtcegdgmbponapaaDoorWStores
import Derived.BigQuiet
namespace Go.Proofs.YtcegdgmbponapaaDoor
open Go.RowKit
attribute [local go_sem ↓] Go.wp_at_zero Go.wp_at_succ

set_option maxRecDepth 100000 in
set_option maxHeartbeats 400000 in
theorem rjoin_noplan (x : Value) (m t l n size : Int) (w : World) (hm : I64 m) (ht : I64 t) (hl : I64 l) (hn : I64 n) (h : ¬ (1 ≤ n ∧ n ≤ 8 ∧ Fits m t l n)) :
    Calls Tryd.prog 17 #[x, .agg #[.int .i64 m, .int .i64 t, .int .i64 l], .int .i64 n, .int .i64 size] w fun e w' => e = .returned (.tuple #[.string ByteArray.empty, .int .i64 3]) ∧ Below w.heap.size w w' := by
  have hba := (Below.refl w.heap.size w).alloc (Nat.le_refl _) (.cells #[.int .i64 m, .int .i64 t, .int .i64 l] 23)
  have HH := hid (fun w => risplan_bad m t l n w hm ht hl hn h)
  clear h hm ht hl hn
  go_enter Tryd.func17, Tryd.ntmps17
  go_wp2_with (go_at_call 32; refine (HH.out _).mono ?_; rintro e w1 ⟨rfl, hb1⟩)
  go_ret2
  exact ⟨rfl, hba.trans (hb1.mono (by simp))⟩

set_option maxRecDepth 100000 in
set_option maxHeartbeats 400000 in
theorem rjoin_big (x : Value) (mode t l n : Nat) (size : Int) (w : World) (h : IsPlan mode t l n) (hs : size < 0 ∨ 60 < size) :
    Calls Tryd.prog 17 #[x, .agg #[.int .i64 mode, .int .i64 t, .int .i64 l], .int .i64 n, .int .i64 size] w fun e w' => e = .returned (.tuple #[.string ByteArray.empty, .int .i64 4]) ∧ Below w.heap.size w w' := by
  have hba := (Below.refl w.heap.size w).alloc (Nat.le_refl _) (.cells #[.int .i64 mode, .int .i64 t, .int .i64 l] 23)
  have HH := hid (fun w => risplan_ok mode t l n w h)
  clear h
  rcases hs with hs | hs
  · go_enter Tryd.func17, Tryd.ntmps17
    go_wp2_with (go_at_call 32; refine (HH.out _).mono ?_; rintro e w1 ⟨rfl, hb1⟩)
    go_ret2
    exact ⟨rfl, hba.trans (hb1.mono (by simp))⟩
  · have hs0 : ¬ size < 0 := by omega
    go_enter Tryd.func17, Tryd.ntmps17
    go_wp2_with (go_at_call 32; refine (HH.out _).mono ?_; rintro e w1 ⟨rfl, hb1⟩)
    go_ret2
    exact ⟨rfl, hba.trans (hb1.mono (by simp))⟩

set_option maxRecDepth 100000 in
set_option maxHeartbeats 1000000 in
theorem rjoin_stores (aP : Option Addr) (M c : Nat) (zs : List Int) (ps : List ByteArray) (mode t l n size : Nat) (w : World) (h : IsPlan mode t l n) (hs : size ≤ 60) (em : M = zs.length) (hr : PZ w aP zs ps) (hm : M ≤ maxLen) (hbad : ¬ GoodSt zs n) :
    Calls Tryd.prog 17 #[.slice aP M c, .agg #[.int .i64 mode, .int .i64 t, .int .i64 l], .int .i64 n, .int .i64 size] w fun e w' => e = .returned (.tuple #[.string ByteArray.empty, .int .i64 13]) ∧ Below w.heap.size w w' := by
  obtain ⟨j0, hj0, hg, hb0⟩ := first_bad zs n hbad
  have hba := (Below.refl w.heap.size w).alloc (Nat.le_refl _) (.cells #[.int .i64 mode, .int .i64 t, .int .i64 l] 23)
  have HH := hid (fun w => risplan_ok mode t l n w h)
  have hjm : j0 < M := by omega
  have EM := hid em
  have HG := hid hg
  have HB0 := hid hb0
  have HR := hid hr
  clear h em hg hb0 hr hbad
  go_enter Tryd.func17, Tryd.ntmps17
  go_wp2_with fail
  refine (HH.out _).mono ?_
  rintro e w1 ⟨rfl, hb1⟩
  have hb01 : Below w.heap.size w w1 := hba.trans (hb1.mono (by simp))
  have hz01 := hb01.size
  clear hb1
  have hs1 : ¬ (60 : Int) < (size : Int) := by omega
  have hs0 : ¬ (size : Int) < 0 := by omega
  have HR1 := hid (HR.out.keeps hb01 (Nat.le_refl _))
  clear HR
  go_wp2_with fail
  go_loopw [11] (fun i wr => ∃ k : Nat, k ≤ j0 ∧ i = .int .i64 k ∧ Below w1.heap.size w1 wr) (fun i _ => M - (intOf i).toNat)
  case atStart => exact ⟨0, Nat.zero_le _, rfl, Below.refl _ _⟩
  case round =>
    obtain ⟨k, hk, rfl, hbel⟩ := hrel
    have hkl : k < zs.length := by omega
    obtain ⟨b, o, rfl, hb, h1, h2⟩ := HR1.out k hkl
    have c1 : wr.cell? ⟨b, o + k * 2, none⟩ = some (.int .i64 (zs.getD k 0)) := (hbel.cell (by exact hb)).trans h1
    have hk1 : (k : Int) < (M : Int) := by omega
    have hk0 : (0 : Int) ≤ (k : Int) := by omega
    have hkm : (k : Int) ≤ 9223372036854775806 := by unfold maxLen at hm; omega
    obtain ⟨z, hzz⟩ : ∃ z, z = zs.getD k 0 := ⟨_, rfl⟩
    rw [← hzz] at c1
    have HZZ := hid hzz
    clear h1 h2
    by_cases hneg : z < 0
    · clear hzz
      go_wp2
      go_ret2
      exact ⟨rfl, hb01.trans (hbel.mono hz01)⟩
    · by_cases hge : (n : Int) ≤ z
      · clear hzz
        go_wp2
        go_ret2
        exact ⟨rfl, hb01.trans (hbel.mono hz01)⟩
      · have hbadz : k = j0 → z ∈ zs.take k := fun e => by
          subst e
          have := HB0.out
          rw [← hzz] at this
          rcases this with h | h | h
          · omega
          · omega
          · exact h
        have hgoodz : k < j0 → ∀ x, x < k → zs.getD x 0 ≠ z := fun hkj x hx e => by
          have e2 : (zs.take j0)[x]'(by simp; omega) = (zs.take j0)[k]'(by simp; omega) := by
            rw [List.getElem_take, List.getElem_take]
            have hxl : x < zs.length := by omega
            rw [show zs.getD x 0 = zs[x] by simp [hxl], hzz, show zs.getD k 0 = zs[k] by simp [hkl]] at e
            exact e
          have := (List.getElem_inj HG.out.2 (h₀ := by simp; omega) (h₁ := by simp; omega)).1 e2
          omega
        have HBZ := hid hbadz
        have HGZ := hid hgoodz
        clear hbadz hgoodz hzz
        go_wp2_with fail
        go_loopw [13] (fun i wr => ∃ kk : Nat, kk ≤ k ∧ i = .int .i64 kk ∧ (∀ x, x < kk → zs.getD x 0 ≠ z) ∧ Below w1.heap.size w1 wr) (fun i _ => k - (intOf i).toNat)
        case atStart => exact ⟨0, Nat.zero_le _, rfl, fun x hx => by omega, hbel⟩
        case round =>
          clear c1 hbel
          obtain ⟨kk, hkk, rfl, hdiff, hbel⟩ := hrel
          have HD := hid hdiff
          clear hdiff
          by_cases hlt : kk < k
          · obtain ⟨b', o', e1, _, h3, _⟩ := HR1.out kk (by omega)
            obtain ⟨rfl, rfl⟩ : b = b' ∧ o = o' := by injection e1 with e1; injection e1 with h1 h2; exact ⟨h1, h2⟩
            have c3 : wr.cell? ⟨b, o + kk * 2, none⟩ = some (.int .i64 (zs.getD kk 0)) := (hbel.cell (by exact hb)).trans h3
            have hk2 : (kk : Int) < (k : Int) := by omega
            have hk3 : (kk : Int) < (M : Int) := by omega
            have hk4 : (0 : Int) ≤ (kk : Int) := by omega
            clear e1 h3
            by_cases heq : zs.getD kk 0 = z
            · rw [heq] at c3
              clear heq
              go_wp2
              go_ret2
              exact ⟨rfl, hb01.trans (hbel.mono hz01)⟩
            · obtain ⟨y, hy⟩ : ∃ y, y = zs.getD kk 0 := ⟨_, rfl⟩
              rw [← hy] at c3 heq
              have hbq : (y == z) = false := beq_eq_false_iff_ne.2 heq
              have HY := hid hy
              have HNE := hid heq
              clear heq hy
              go_wp2
              go_roundw
              case rel => exact ⟨kk + 1, by omega, by go_num, fun x hx => by
                rcases Nat.lt_or_ge x kk with h | h
                · exact HD.out x h
                · rw [show x = kk by omega, ← HY.out]; exact HNE.out, hbel⟩
              case measure => simp [intOf]; omega
          · have hkj : k < j0 := by
              rcases Nat.lt_or_ge k j0 with h | h
              · exact h
              · exfalso
                have hm2 := HBZ.out (by omega)
                obtain ⟨i, hi, e⟩ := List.getElem_of_mem hm2
                have hik : i < k := by simp at hi; omega
                have hil : i < zs.length := by omega
                rw [List.getElem_take] at e
                exact HD.out i (by omega) (by rw [show zs.getD i 0 = zs[i] by simp [hil]]; exact e)
            have hk2 : ¬ (kk : Int) < (k : Int) := by omega
            go_wp2
            go_roundw
            case rel => exact ⟨k + 1, by omega, by go_num, hbel⟩
            case measure => simp [intOf]; omega

theorem prd_take {w : World} {a : Option Addr} {ss : List Nat} {ps : List ByteArray} (h : PRd w a ss ps) (n : Nat) : PRd w a (ss.take n) (ps.take n) := by
  intro i hi
  have hin : i < n := by simp at hi; omega
  obtain ⟨b, o, h1, h2, h3, h4⟩ := h i (by simp at hi; omega)
  exact ⟨b, o, h1, h2, by rw [h3]; simp [hin], by rw [h4]; simp [hin]⟩

/-- What the right pieces are, to the reference. -/
theorem PRd.toPZ {w : World} {a : Option Addr} {ss : List Nat} {ps : List ByteArray} (h : PRd w a ss ps) : PZ w a (ss.map fun (s : Nat) => (s : Int)) ps := by
  intro i hi
  have hi' : i < ss.length := by simpa using hi
  obtain ⟨b, o, h1, h2, h3, h4⟩ := h i hi'
  exact ⟨b, o, h1, h2, by rw [h3]; simp [hi'], h4⟩

set_option maxRecDepth 100000 in
set_option maxHeartbeats 1000000 in
theorem rjoin_rest (aP : Option Addr) (M c N : Nat) (ss : List Nat) (ps : List ByteArray) (mode t l n size : Nat) (w : World) (h : IsPlan mode t l n) (hs : size ≤ 60) (em : M = ss.length) (hr : PRd w aP ss ps) (hpl : ps.length = M) (hm8 : M ≤ 8) (hmc : M ≤ c) (hlt : ∀ s ∈ ss, s < n) (hnd : ss.Nodup) (hN : N = Cof.gsize mode t l + Cof.tsize mode t) :
    Calls Tryd.prog 17 #[.slice aP M c, .agg #[.int .i64 mode, .int .i64 t, .int .i64 l], .int .i64 n, .int .i64 size] w fun e w' =>
      ((¬ ∀ i, i < M → (ps.getD i ByteArray.empty).size = Cof.ngroups mode t l size) → e = .returned (.tuple #[.string ByteArray.empty, .int .i64 12])) ∧
      ((∀ i, i < M → (ps.getD i ByteArray.empty).size = Cof.ngroups mode t l size) → M < N → e = .returned (.tuple #[.string ByteArray.empty, .int .i64 10])) ∧
      ((∀ i, i < M → (ps.getD i ByteArray.empty).size = Cof.ngroups mode t l size) → N ≤ M → e = .returned (.tuple #[.string ⟨(Cof.join mode t l size (ss.take N) ((ps.take N).map fun p => p.data.toList)).toArray⟩, .int .i64 0])) ∧ Below w.heap.size w w' := by
  obtain ⟨hgs1, hgs8, hts8⟩ := gsize_le h
  have hba := (Below.refl w.heap.size w).alloc (Nat.le_refl _) (.cells #[.int .i64 mode, .int .i64 t, .int .i64 l] 23)
  have HH := hid (fun w => risplan_ok mode t l n w h)
  have HTH := hid (fun w => rthreshold_any mode t l n w h)
  have HGR := hid (fun w => rgroups_any mode t l n size w h hs)
  have hN1 : 1 ≤ N := by omega
  have hN16 : N ≤ 16 := by omega
  have HVL := hid (fun (w' : World) (hb : Below w.heap.size w w') (hen : N ≤ M) (hl : ∀ i, i < M → (ps.getD i ByteArray.empty).size = Cof.ngroups mode t l size) =>
    rvalue_any mode t l n size N c aP (ss.take N) (ps.take N) w' h hs (by rw [List.length_take]; omega) (by rw [List.length_take]; omega) (prd_take (hr.keeps hb (Nat.le_refl _)) N) hN1 hN16 (fun s hs => hlt s (List.mem_of_mem_take hs)) (hnd.sublist (List.take_sublist _ _)) (fun i hi => by
      rw [show (ps.take N).getD i ByteArray.empty = ps.getD i ByteArray.empty by simp [hi]]; exact hl i (by omega)))
  rw [← hN] at HTH
  have HJE : Hid (Cof.join mode t l size (ss.take N) ((ps.take N).map fun p => p.data.toList) = (Cof.full mode t l size (ss.take N) ((ps.take N).map fun p => p.data.toList)).take size) := rfl
  generalize Cof.full mode t l size (ss.take N) ((ps.take N).map fun p => p.data.toList) = FF at *
  generalize Cof.join mode t l size (ss.take N) ((ps.take N).map fun p => p.data.toList) = J at *
  generalize Cof.ngroups mode t l size = G at *
  have EM := hid em
  have HR := hid hr
  have HLT := hid hlt
  have HND := hid hnd
  clear h em hr hlt hnd hN hgs1 hgs8 hts8 hpl
  go_enter Tryd.func17, Tryd.ntmps17
  go_wp2_with fail
  refine (HH.out _).mono ?_
  rintro e w1 ⟨rfl, hb1⟩
  have hb01 : Below w.heap.size w w1 := hba.trans (hb1.mono (by simp))
  have hz01 : w.heap.size < w1.heap.size := by have := hb1.size; simp at this; omega
  have hc := (bcell hb1).1
  have p0 : w1.cell? ⟨w.heap.size, 0, none⟩ = some (.int .i64 mode) := (hc _ _ (by simp)).trans (by simp)
  have p1 : w1.cell? ⟨w.heap.size, 1, none⟩ = some (.int .i64 t) := (hc _ _ (by simp)).trans (by simp)
  have p2 : w1.cell? ⟨w.heap.size, 2, none⟩ = some (.int .i64 l) := (hc _ _ (by simp)).trans (by simp)
  clear hb1 hc
  have hs1 : ¬ (60 : Int) < (size : Int) := by omega
  have hs0 : ¬ (size : Int) < 0 := by omega
  have HR1 := hid (HR.out.keeps hb01 (Nat.le_refl _))
  clear HR
  go_wp2_with fail
  go_loopw [11] (fun i wr => ∃ k : Nat, k ≤ M ∧ i = .int .i64 k ∧ Below w1.heap.size w1 wr) (fun i _ => M - (intOf i).toNat)
  case atStart => exact ⟨0, Nat.zero_le _, rfl, Below.refl _ _⟩
  case round =>
    obtain ⟨k, hk, rfl, hbel⟩ := hrel
    by_cases hkM : k < M
    · have hkl : k < ss.length := by rw [← EM.out]; exact hkM
      obtain ⟨b, o, rfl, hb, h1, h2⟩ := HR1.out k hkl
      have c1 : wr.cell? ⟨b, o + k * 2, none⟩ = some (.int .i64 (ss.getD k 0 : Nat)) := (hbel.cell (by exact hb)).trans h1
      obtain ⟨s, hss⟩ : ∃ s, s = ss.getD k 0 := ⟨_, rfl⟩
      have hsk : s = ss[k] := by rw [hss]; simp [hkl]
      have hsn : s < n := by rw [hsk]; exact HLT.out _ (List.getElem_mem hkl)
      have HNE := hid (show ∀ x, x < k → ss.getD x 0 ≠ s from fun x hx e => by
        have hxl : x < ss.length := by omega
        rw [show ss.getD x 0 = ss[x] by simp [hxl], hsk] at e
        have := (List.getElem_inj HND.out (h₀ := hxl) (h₁ := hkl)).1 e
        omega)
      rw [← hss] at c1
      have hk1 : (k : Int) < (M : Int) := by omega
      have hk0 : (0 : Int) ≤ (k : Int) := by omega
      have hs2 : ¬ (s : Int) < 0 := by omega
      have hs3 : ¬ (n : Int) ≤ (s : Int) := by omega
      clear h1 h2 hss hsk
      go_wp2_with fail
      go_loopw [13] (fun i wr => ∃ kk : Nat, kk ≤ k ∧ i = .int .i64 kk ∧ Below w1.heap.size w1 wr) (fun i _ => k - (intOf i).toNat)
      case atStart => exact ⟨0, Nat.zero_le _, rfl, hbel⟩
      case round =>
        clear c1 hbel
        obtain ⟨kk, hkk, rfl, hbel⟩ := hrel
        by_cases hl2 : kk < k
        · obtain ⟨b', o', e1, _, h3, _⟩ := HR1.out kk (by rw [← EM.out]; omega)
          obtain ⟨rfl, rfl⟩ : b = b' ∧ o = o' := by injection e1 with e1; injection e1 with h1 h2; exact ⟨h1, h2⟩
          have c3 : wr.cell? ⟨b, o + kk * 2, none⟩ = some (.int .i64 (ss.getD kk 0 : Nat)) := (hbel.cell (by exact hb)).trans h3
          have hne := HNE.out kk hl2
          generalize ss.getD kk 0 = y at *
          have hbq : ((y : Int) == (s : Int)) = false := beq_eq_false_iff_ne.2 (by omega)
          have hk2 : (kk : Int) < (k : Int) := by omega
          have hk3 : (kk : Int) < (M : Int) := by omega
          have hk4 : (0 : Int) ≤ (kk : Int) := by omega
          clear e1 h3 hne
          go_wp2
          go_roundw
          case rel => exact ⟨kk + 1, by omega, by go_num, hbel⟩
          case measure => simp [intOf]; omega
        · have hk2 : ¬ (kk : Int) < (k : Int) := by omega
          go_wp2
          go_roundw
          case rel => exact ⟨k + 1, by omega, by go_num, hbel⟩
          case measure => simp [intOf]; omega
    · have hk1 : ¬ (k : Int) < (M : Int) := by omega
      go_wp2_with fail
      go_loopw [14] (fun i wr => ∃ kk : Nat, kk ≤ M ∧ i = .int .i64 kk ∧ (∀ x, x < kk → (ps.getD x ByteArray.empty).size = G) ∧ Below w1.heap.size w1 wr) (fun i _ => M - (intOf i).toNat)
      case atStart => exact ⟨0, Nat.zero_le _, rfl, fun x hx => by omega, hbel⟩
      case round =>
        clear hbel
        obtain ⟨kk, hkk, rfl, hgood, hbel⟩ := hrel
        have HGD := hid hgood
        clear hgood
        have hzb := hbel.size
        have c0 : wr.cell? ⟨w.heap.size, 0, none⟩ = some (.int .i64 mode) := (hbel.cell (by exact hz01)).trans p0
        have c1 : wr.cell? ⟨w.heap.size, 1, none⟩ = some (.int .i64 t) := (hbel.cell (by exact hz01)).trans p1
        have c2 : wr.cell? ⟨w.heap.size, 2, none⟩ = some (.int .i64 l) := (hbel.cell (by exact hz01)).trans p2
        by_cases hkM2 : kk < M
        · obtain ⟨b, o, rfl, hb, h1, h2⟩ := HR1.out kk (by rw [← EM.out]; exact hkM2)
          have d2 : wr.cell? ⟨b, o + kk * 2 + 1, none⟩ = some (.string (ps.getD kk ByteArray.empty)) := (hbel.cell (by exact hb)).trans h2
          obtain ⟨p, hp⟩ : ∃ p, p = ps.getD kk ByteArray.empty := ⟨_, rfl⟩
          rw [← hp] at d2
          have HP := hid hp
          have hk2 : (kk : Int) < (M : Int) := by omega
          have hk3 : (0 : Int) ≤ (kk : Int) := by omega
          clear h1 h2 hp
          have hbr : b < wr.heap.size := by omega
          go_wp2_with fail
          go_region_held3 (fun w' => w'.cell? ⟨w.heap.size, 0, none⟩ = some (.int .i64 mode) ∧ w'.cell? ⟨w.heap.size, 1, none⟩ = some (.int .i64 t) ∧ w'.cell? ⟨w.heap.size, 2, none⟩ = some (.int .i64 l) ∧ w'.cell? ⟨b, o + kk * 2 + 1, none⟩ = some (.string p)) (first | exact ⟨x0, x1, x2, x3⟩ | exact ⟨c0, c1, c2, d2⟩ | go_keep)
            ((go_at_call 38; refine (HGR.out _).mono ?_; rintro e w6 ⟨rfl, hb6⟩; have hb56 : Below wr.heap.size wr w6 := ((Below.refl _ _).drew).trans hb6; have x0 : w6.cell? ⟨w.heap.size, 0, none⟩ = some (.int .i64 mode) := (hb56.cell (by show w.heap.size < wr.heap.size; omega)).trans c0; have x1 : w6.cell? ⟨w.heap.size, 1, none⟩ = some (.int .i64 t) := (hb56.cell (by show w.heap.size < wr.heap.size; omega)).trans c1; have x2 : w6.cell? ⟨w.heap.size, 2, none⟩ = some (.int .i64 l) := (hb56.cell (by show w.heap.size < wr.heap.size; omega)).trans c2; have x3 : w6.cell? ⟨b, o + kk * 2 + 1, none⟩ = some (.string p) := (hb56.cell (by exact hbr)).trans d2))
          have hb57 : Below w1.heap.size w1 w6 := hbel.trans (hb56.mono hzb)
          by_cases hpz : p.size = G
          · have hne : ((p.size : Int) != (G : Int)) = false := by rw [hpz]; simp
            have HPZ := hid hpz
            clear hpz
            go_wp2
            go_roundw
            case rel => exact ⟨kk + 1, by omega, by go_num, fun x hx => by
              rcases Nat.lt_or_ge x kk with h | h
              · exact HGD.out x h
              · rw [show x = kk by omega, ← HP.out]; exact HPZ.out, hb57⟩
            case measure => simp [intOf]; omega
          · have hne : ((p.size : Int) != (G : Int)) = true := by rw [bne_iff_ne]; omega
            have HBD := hid (show ¬ ∀ i, i < M → (ps.getD i ByteArray.empty).size = G from fun h => hpz (by rw [HP.out]; exact h kk hkM2))
            clear hpz
            go_wp2
            go_ret2
            exact ⟨fun _ => rfl, fun h => absurd h HBD.out, fun h => absurd h HBD.out, hb01.trans (hb57.mono (by omega))⟩
        · have hk2 : ¬ (kk : Int) < (M : Int) := by omega
          have HALL := hid (show ∀ i, i < M → (ps.getD i ByteArray.empty).size = G from fun i hi => HGD.out i (by omega))
          go_wp2_with fail
          refine (HTH.out _).mono ?_
          rintro e w2 ⟨rfl, hb2⟩
          have hb12 : Below w1.heap.size w1 w2 := hbel.trans (hb2.mono hzb)
          have hz2 := hb12.size
          have y0 : w2.cell? ⟨w.heap.size, 0, none⟩ = some (.int .i64 mode) := (hb12.cell (by exact hz01)).trans p0
          have y1 : w2.cell? ⟨w.heap.size, 1, none⟩ = some (.int .i64 t) := (hb12.cell (by exact hz01)).trans p1
          have y2 : w2.cell? ⟨w.heap.size, 2, none⟩ = some (.int .i64 l) := (hb12.cell (by exact hz01)).trans p2
          have hb02 : Below w.heap.size w w2 := hb01.trans (hb12.mono (by omega))
          by_cases hfew : M < N
          · have hf1 : (M : Int) < (N : Int) := by omega
            go_wp2
            go_ret2
            exact ⟨fun h => absurd HALL.out h, fun _ _ => rfl, fun _ h => by omega, hb02⟩
          · have hf1 : ¬ (M : Int) < (N : Int) := by omega
            have hNc : (N : Int) ≤ (c : Int) := by omega
            have hN0 : (0 : Int) ≤ (N : Int) := by omega
            have hc0 : ¬ c = 0 := by omega
            have HVV := hid (fun (w' : World) (hb : Below w.heap.size w w') => HVL.out w' hb (by omega) HALL.out)
            go_wp2_with fail
            go_region_held3 (fun w' => w'.cell? ⟨w.heap.size, 0, none⟩ = some (.int .i64 mode) ∧ w'.cell? ⟨w.heap.size, 1, none⟩ = some (.int .i64 t) ∧ w'.cell? ⟨w.heap.size, 2, none⟩ = some (.int .i64 l)) (first | exact ⟨x0, x1, x2⟩ | exact ⟨y0, y1, y2⟩ | go_keep)
              ((go_at_call 40; refine (HVV.out _ (by exact hb02.drew)).mono ?_; rintro e w6 ⟨rfl, hb6⟩; have hb56 : Below w2.heap.size w2 w6 := ((Below.refl _ _).drew).trans hb6; have x0 : w6.cell? ⟨w.heap.size, 0, none⟩ = some (.int .i64 mode) := (hb56.cell (by show w.heap.size < w2.heap.size; omega)).trans y0; have x1 : w6.cell? ⟨w.heap.size, 1, none⟩ = some (.int .i64 t) := (hb56.cell (by show w.heap.size < w2.heap.size; omega)).trans y1; have x2 : w6.cell? ⟨w.heap.size, 2, none⟩ = some (.int .i64 l) := (hb56.cell (by show w.heap.size < w2.heap.size; omega)).trans y2))
            go_wp2
            go_ret2
            exact ⟨fun h => absurd HALL.out h, fun _ h => by omega, fun _ _ => by rw [HJE.out]; rfl, hb02.trans (hb56.mono (by omega))⟩
end Go.Proofs.YtcegdgmbponapaaDoor
