/-
  The walks of cofferlaw.handed and untouched.
-/
import Derived.Test.YtcegdgmbponapaaDoorWRefJoin
import Derived.Laws.IdiomCopy
import Derived.Lib.SlBuf
import Derived.BigQuiet
namespace Go.Proofs.YtcegdgmbponapaaDoor
open Go.RowKit
attribute [local go_sem ↓] Go.wp_at_zero Go.wp_at_succ

theorem run_copy_any {P : Program} (w : World) (dT sT ty elem : TypeId) (i : TypeInfo) (b o dLen dCap : Nat) (sp : Option Addr) (sLen sCap : Nat) (cs : List Value)
    (hu : P.underlying dT = some (.slice elem)) (hi : P.info? elem = some i) (hn : cs.length = Nat.min sLen dLen * i.size) (hsp : sp = none → cs = [])
    (hsrc : ∀ a, sp = some a → ∀ j v, cs[j]? = some v → w.cell? (a.add j) = some v) (hc : ∀ j, j < cs.length → (w.cell? ⟨b, o + j, none⟩).isSome = true) (hf : ∀ j, j < cs.length → w.frozen? ⟨b, o + j, none⟩ = false) (h1 : ∀ v ∈ cs, v.oneCell' = true) :
    (Builtin.copy_ #[dT, sT] ty #[.slice (some ⟨b, o, none⟩) dLen dCap, .slice sp sLen sCap]).run P w = .ok (goInt (Nat.min sLen dLen)) (w.setCells b o cs) := by
  have hst := run_storeCells_cells (P := P) b o cs 0 w (by simpa using hc) (by simpa using hf) h1
  cases sp with
  | none =>
    obtain rfl := hsp rfl
    simp [Builtin.copy_, run_underlying hu, Builtin.lenOf, Builtin.firstCells, sizeOf, typeInfo, hi, storeCells, World.setCells]
  | some a =>
    have hl := run_firstCells_some (P := P) w i.size (Nat.min sLen dLen) a sLen sCap cs hn (hsrc a rfl)
    simp only [Nat.add_zero] at hst
    simp [Builtin.copy_, run_underlying hu, Builtin.lenOf, sizeOf, typeInfo, hi, hl, hst]

def pcz (zs : List Int) (ps : List ByteArray) (k : Nat) : List Value := (List.range k).flatMap fun i => [.int .i64 (zs.getD i 0), .string (ps.getD i ByteArray.empty)]

theorem pcz_snoc (zs : List Int) (ps : List ByteArray) (k : Nat) : pcz zs ps (k + 1) = pcz zs ps k ++ [.int .i64 (zs.getD k 0), .string (ps.getD k ByteArray.empty)] := by
  simp [pcz, List.range_succ]

theorem pcz_length (zs : List Int) (ps : List ByteArray) (k : Nat) : (pcz zs ps k).length = k * 2 := by
  induction k with
  | zero => rfl
  | succ k ih => rw [pcz_snoc, List.length_append, ih]; simp; omega

theorem pcz_at (zs : List Int) (ps : List ByteArray) (k i : Nat) (h : i < k) : (pcz zs ps k)[i * 2]? = some (.int .i64 (zs.getD i 0)) ∧ (pcz zs ps k)[i * 2 + 1]? = some (.string (ps.getD i ByteArray.empty)) := by
  induction k with
  | zero => omega
  | succ k ih =>
    rw [pcz_snoc]
    by_cases hj : i < k
    · rw [List.getElem?_append_left (by rw [pcz_length]; omega), List.getElem?_append_left (by rw [pcz_length]; omega)]
      exact ih hj
    · have : i = k := by omega
      subst this
      rw [List.getElem?_append_right (by rw [pcz_length]; omega), List.getElem?_append_right (by rw [pcz_length]; omega), pcz_length]
      simp

theorem pcz_one (zs : List Int) (ps : List ByteArray) (k : Nat) (v : Value) (h : v ∈ pcz zs ps k) : v.oneCell' = true := by
  simp only [pcz, List.mem_flatMap] at h
  obtain ⟨i, _, h⟩ := h
  simp at h
  rcases h with rfl | rfl <;> rfl

theorem pcz_src {w : World} {a : Option Addr} {zs : List Int} {ps : List ByteArray} (h : PZ w a zs ps) (b : Addr) (hb : a = some b) (j : Nat) (v : Value) (hj : (pcz zs ps zs.length)[j]? = some v) : w.cell? (b.add j) = some v := by
  have hjl : j < zs.length * 2 := by
    rcases Nat.lt_or_ge j (zs.length * 2) with h | h
    · exact h
    · rw [List.getElem?_eq_none (by rw [pcz_length]; exact h)] at hj; cases hj
  obtain ⟨b', o, e, _, h3, h4⟩ := h (j / 2) (by omega)
  rw [e] at hb
  obtain rfl := Option.some.inj hb
  have hat := pcz_at zs ps zs.length (j / 2) (by omega)
  rw [add_at]
  rcases Nat.mod_two_eq_zero_or_one j with h0 | h0
  · have ej : j = j / 2 * 2 := by omega
    rw [ej, hat.1] at hj
    rw [ej, ← hj]; exact h3
  · have ej : j = j / 2 * 2 + 1 := by omega
    rw [ej, hat.2] at hj
    rw [ej, ← Nat.add_assoc, ← hj]; exact h4

/-- The spare room's mark. -/
def bang : ByteArray := ⟨#[33]⟩

/-- A list that is handed in: the pieces, and k places of its spare room that are marked. -/
def Hd (w : World) (g : Nat) (zs : List Int) (ps : List ByteArray) (n k : Nat) : Prop :=
  (∀ i, i < n → w.cell? ⟨g, i * 2, none⟩ = some (.int .i64 (zs.getD i 0)) ∧ w.cell? ⟨g, i * 2 + 1, none⟩ = some (.string (ps.getD i ByteArray.empty))) ∧
  (∀ i, n ≤ i → i < k → w.cell? ⟨g, i * 2, none⟩ = some (.int .i64 (-5)) ∧ w.cell? ⟨g, i * 2 + 1, none⟩ = some (.string bang)) ∧
  (∀ j, j < (n + 8) * 2 → (w.cell? ⟨g, j, none⟩).isSome = true ∧ w.frozen? ⟨g, j, none⟩ = false)

theorem hd_copied {w : World} {base g n m : Nat} {L : List Value} {e : TypeId} (zs : List Int) (ps : List ByteArray) (hm : m = n + 8) (h : w.ownsRow base e 2 (.slice (some ⟨g, 0, none⟩) m m) m L) : Hd (w.setCells g 0 (pcz zs ps n)) g zs ps n n := by
  have hsome : ∀ j, j < m * 2 → (w.cell? ⟨g, j, none⟩).isSome = true := fun j hj => by
    rw [h.cellAt j (by omega), List.getElem?_eq_getElem (by rw [h.1]; omega)]; rfl
  have hin : ∀ j (hj : j < (pcz zs ps n).length), (w.setCells g 0 (pcz zs ps n)).cell? ⟨g, j, none⟩ = some (pcz zs ps n)[j] := fun j hj => by
    have := World.cell?_setCells_in g (pcz zs ps n) 0 w (fun j hj => by rw [Nat.zero_add]; rw [pcz_length] at hj; exact hsome j (by omega)) j hj
    rwa [Nat.zero_add] at this
  refine ⟨fun i hi => ?_, fun i h1 h2 => by omega, fun j hj => ⟨?_, by rw [World.frozen?_setCells]; exact h.frozenAt j⟩⟩
  · have hat := pcz_at zs ps n i hi
    refine ⟨?_, ?_⟩
    · rw [hin (i * 2) (by rw [pcz_length]; omega), ← List.getElem?_eq_getElem]; exact hat.1
    · rw [hin (i * 2 + 1) (by rw [pcz_length]; omega), ← List.getElem?_eq_getElem]; exact hat.2
  · rcases Nat.lt_or_ge j (n * 2) with h1 | h1
    · rw [hin j (by rw [pcz_length]; exact h1)]; rfl
    · rw [World.cell?_setCells_out g _ 0 w ⟨g, j, none⟩ (fun _ _ => .inr (by rw [pcz_length]; simpa using h1))]
      exact hsome j (by omega)

theorem hd_mark {w : World} {g n k : Nat} {zs : List Int} {ps : List ByteArray} (h : Hd w g zs ps n k) (hn : n ≤ k) (hk : k < n + 8) : Hd ((w.setCell ⟨g, k * 2, none⟩ (.int .i64 (-5))).setCell ⟨g, k * 2 + 1, none⟩ (.string bang)) g zs ps n (k + 1) := by
  obtain ⟨h1, h2, h3⟩ := h
  have far : ∀ j, j ≠ k * 2 → j ≠ k * 2 + 1 → ((w.setCell ⟨g, k * 2, none⟩ (.int .i64 (-5))).setCell ⟨g, k * 2 + 1, none⟩ (.string bang)).cell? ⟨g, j, none⟩ = w.cell? ⟨g, j, none⟩ := fun j e1 e2 => by
    rw [World.cell?_setCell_other _ _ _ _ (by intro e; injection e with _ e; omega), World.cell?_setCell_other _ _ _ _ (by intro e; injection e with _ e; omega)]
  obtain ⟨u0, hu0⟩ := Option.isSome_iff_exists.1 (h3 (k * 2) (by omega)).1
  obtain ⟨u1, hu1⟩ := Option.isSome_iff_exists.1 (h3 (k * 2 + 1) (by omega)).1
  have n0 : ((w.setCell ⟨g, k * 2, none⟩ (.int .i64 (-5))).setCell ⟨g, k * 2 + 1, none⟩ (.string bang)).cell? ⟨g, k * 2, none⟩ = some (.int .i64 (-5)) := by
    rw [World.cell?_setCell_other _ _ _ _ (by simp)]; exact World.cell?_setCell_same _ _ _ hu0
  have n1 : ((w.setCell ⟨g, k * 2, none⟩ (.int .i64 (-5))).setCell ⟨g, k * 2 + 1, none⟩ (.string bang)).cell? ⟨g, k * 2 + 1, none⟩ = some (.string bang) :=
    World.cell?_setCell_same _ _ _ (by rw [World.cell?_setCell_other _ _ _ _ (by simp)]; exact hu1)
  refine ⟨fun i hi => ?_, fun i hi1 hi2 => ?_, fun j hj => ⟨?_, by simpa using (h3 j hj).2⟩⟩
  · rw [far _ (by omega) (by omega), far _ (by omega) (by omega)]; exact h1 i hi
  · rcases Nat.lt_or_ge i k with h | h
    · rw [far _ (by omega) (by omega), far _ (by omega) (by omega)]; exact h2 i hi1 h
    · obtain rfl : i = k := by omega
      exact ⟨n0, n1⟩
  · by_cases e1 : j = k * 2
    · rw [e1, n0]; rfl
    · by_cases e2 : j = k * 2 + 1
      · rw [e2, n1]; rfl
      · rw [far j e1 e2]; exact (h3 j hj).1

set_option maxRecDepth 100000 in
set_option maxHeartbeats 1000000 in
theorem handed_any (aP : Option Addr) (n c : Nat) (zs : List Int) (ps : List ByteArray) (w : World) (en : n = zs.length) (hr : PZ w aP zs ps) (hno : aP = none → n = 0) (hn : 24 * (n + 8) ≤ 281474976710656) :
    Calls Tryd.prog 14 #[.slice aP n c] w fun e w' => ∃ g, e = .returned (.slice (some ⟨g, 0, none⟩) n (n + 8)) ∧ w.heap.size ≤ g ∧ g < w'.heap.size ∧ Hd w' g zs ps n (n + 8) ∧ Below w.heap.size w w' := by
  obtain ⟨iP, hiP, hq0, hq1, hq2⟩ := info_parts Tryd.infoPiece
  have EN := hid en
  have HR := hid hr
  have HNO := hid hno
  obtain ⟨m, hm⟩ : ∃ m, m = n + 8 := ⟨_, rfl⟩
  have hmi : (n : Int) + 8 = (m : Int) := by omega
  have HM := hid hm
  have hnm : n ≤ m := by omega
  have hmb : 24 * m ≤ 281474976710656 := by omega
  clear en hr hno hn hm
  go_enter Tryd.func14, Tryd.ntmps14
  go_wp2_with (first | (at_make; refine wpList_make_full _ rfl (.tmp 9) (.tmp 9) 39 rfl w.heap.size 57 iP (.agg #[.int .i64 0, .string ByteArray.empty]) 2 Tryd.underlying39 hiP hq0 hq1 .i64 .i64 _ _ m rfl rfl rfl rfl (by rw [hq2]; omega) (by unfold maxLen; omega) (Nat.le_refl _) ?_; intro w2 hown2 hgrow2; have hb2 := grown_below hgrow2; have HO2 := hid hown2; have hz2 : w.heap.size < w2.heap.size := (hown2.lt w.heap.size rfl).2; clear hown2 hgrow2; have hcp0 : ∀ ty, (Builtin.copy_ #[39, 39] ty #[.slice (some ⟨w.heap.size, 0, none⟩) m m, .slice aP n c]).run Tryd.prog w2 = .ok (goInt (Nat.min n m)) (w2.setCells w.heap.size 0 (pcz zs ps n)) := (fun ty => run_copy_any (P := Tryd.prog) w2 39 39 ty 57 iP w.heap.size 0 m m aP n c (pcz zs ps n) Tryd.underlying39 hiP (by rw [pcz_length, hq1]; congr 1; exact (Nat.min_eq_left hnm).symm) (fun h => by rw [HNO.out h]; rfl) (fun a ha j v hj => by rw [EN.out] at hj; exact pcz_src (HR.out.keeps hb2 (Nat.le_refl _)) a ha j v hj) (fun j hj => by rw [pcz_length] at hj; rw [Nat.zero_add, HO2.out.cellAt j (by omega), List.getElem?_eq_getElem (by rw [HO2.out.1]; omega)]; rfl) (fun j hj => by rw [Nat.zero_add]; exact HO2.out.frozenAt j) (pcz_one zs ps n)); have hcp : ∀ ty, (Builtin.copy_ #[39, 39] ty #[.slice (some ⟨w.heap.size, 0, none⟩) m m, .slice aP n c]).run Tryd.prog w2 = .ok (.int .i64 (n : Int)) (w2.setCells w.heap.size 0 (pcz zs ps n)) := (fun ty => by rw [hcp0 ty, show Nat.min n m = n from Nat.min_eq_left hnm]; rfl); have hd3 := hd_copied zs ps HM.out HO2.out; have hb3 : Below w.heap.size w (w2.setCells w.heap.size 0 (pcz zs ps n)) := Lib.below_setCells w.heap.size (Nat.le_refl _) _ _ hb2; have hz3 : w.heap.size < (w2.setCells w.heap.size 0 (pcz zs ps n)).heap.size := Nat.lt_of_lt_of_le hz2 (Lib.below_setCells (B := 0) (a := w2) w.heap.size (Nat.zero_le _) (pcz zs ps n) 0 (Below.refl _ _)).size; generalize w2.setCells w.heap.size 0 (pcz zs ps n) = w3 at hcp hd3 hb3 hz3; have HD3 := hid hd3; clear hd3 hcp0))
  go_loopw [5] (fun i wr => ∃ k : Nat, n ≤ k ∧ k ≤ m ∧ i = .int .i64 k ∧ Hd wr w.heap.size zs ps n k ∧ Below w.heap.size w wr ∧ w.heap.size < wr.heap.size) (fun i _ => m - (intOf i).toNat)
  case atStart => exact ⟨n, Nat.le_refl _, hnm, rfl, HD3.out, hb3, hz3⟩
  case round =>
    obtain ⟨k, hk1, hk2, rfl, hd, hbel, hz⟩ := hrel
    have HD := hid hd
    clear hd
    by_cases hlt : k < m
    · have hk3 : (k : Int) < (m : Int) := by omega
      have hk0 : (0 : Int) ≤ (k : Int) := by omega
      obtain ⟨u0, hu0⟩ := Option.isSome_iff_exists.1 (HD.out.2.2 (k * 2) (by have := HM.out; omega)).1
      obtain ⟨u1, hu1⟩ := Option.isSome_iff_exists.1 (HD.out.2.2 (k * 2 + 1) (by have := HM.out; omega)).1
      have f0 := (HD.out.2.2 (k * 2) (by have := HM.out; omega)).2
      have f1 := (HD.out.2.2 (k * 2 + 1) (by have := HM.out; omega)).2
      have HDN := hid (hd_mark HD.out hk1 (by have := HM.out; omega))
      go_wp2
      go_roundw
      case rel => exact ⟨k + 1, by omega, by omega, by go_num, HDN.out, (hbel.setCell (p := ⟨w.heap.size, k * 2, none⟩) (Nat.le_refl _) _).setCell (p := ⟨w.heap.size, k * 2 + 1, none⟩) (Nat.le_refl _) _, by simpa using hz⟩
      case measure => simp [intOf]; omega
    · have hk3 : ¬ (k : Int) < (m : Int) := by omega
      have hkm : k = m := by omega
      rw [hkm] at HD
      have hn1 : (n : Int) ≤ (m : Int) := by omega
      have hm0 : ¬ m = 0 := by have := HM.out; omega
      clear hkm
      go_wp2
      go_ret
      rw [HM.out] at HD
      exact ⟨w.heap.size, by rw [HM.out]; rfl, Nat.le_refl _, hz, HD.out, hbel⟩

set_option maxRecDepth 100000 in
set_option maxHeartbeats 1000000 in
theorem untouched_any (aP : Option Addr) (n c g : Nat) (zs : List Int) (ps : List ByteArray) (w : World) (en : n = zs.length) (hr : PZ w aP zs ps) (hd : Hd w g zs ps n (n + 8)) (hg : g < w.heap.size) (hn : 24 * (n + 8) ≤ 281474976710656) :
    Calls Tryd.prog 16 #[.slice (some ⟨g, 0, none⟩) n (n + 8), .slice aP n c] w fun e w' => e = .returned (.bool true) ∧ Below w.heap.size w w' := by
  have EN := hid en
  have HR := hid hr
  have HD := hid hd
  obtain ⟨m, hm⟩ : ∃ m, m = n + 8 := ⟨_, rfl⟩
  have hmi : (n : Int) + 8 = (m : Int) := by omega
  have HM := hid hm
  have hnm : n ≤ m := by omega
  have hm0 : ¬ m = 0 := by omega
  have hmb : m ≤ 281474976710656 := by omega
  rw [← hm] at HD ⊢
  clear en hr hd hn hm
  go_enter Tryd.func16, Tryd.ntmps16
  go_wp2_with fail
  go_loopw [7] (fun i wr => ∃ k : Nat, k ≤ m ∧ i = .int .i64 k ∧ Below w.heap.size w wr) (fun i _ => m - (intOf i).toNat)
  case atStart => exact ⟨0, Nat.zero_le _, rfl, Below.refl _ _⟩
  case round =>
    obtain ⟨k, hk, rfl, hbel⟩ := hrel
    have hzb := hbel.size
    by_cases hlt : k < m
    · have hk3 : (k : Int) < (m : Int) := by omega
      have hk0 : (0 : Int) ≤ (k : Int) := by omega
      by_cases hkn : k < n
      · have hk4 : (k : Int) < (n : Int) := by omega
        obtain ⟨b, o, rfl, hb, h1, h2⟩ := HR.out k (by rw [← EN.out]; exact hkn)
        obtain ⟨h3, h4⟩ := HD.out.1 k hkn
        have c1 : wr.cell? ⟨b, o + k * 2, none⟩ = some (.int .i64 (zs.getD k 0)) := (hbel.cell (by exact hb)).trans h1
        have c2 : wr.cell? ⟨b, o + k * 2 + 1, none⟩ = some (.string (ps.getD k ByteArray.empty)) := (hbel.cell (by exact hb)).trans h2
        have c3 : wr.cell? ⟨g, k * 2, none⟩ = some (.int .i64 (zs.getD k 0)) := (hbel.cell (by exact hg)).trans h3
        have c4 : wr.cell? ⟨g, k * 2 + 1, none⟩ = some (.string (ps.getD k ByteArray.empty)) := (hbel.cell (by exact hg)).trans h4
        generalize zs.getD k 0 = z at *
        generalize ps.getD k ByteArray.empty = p at *
        clear h1 h2 h3 h4
        have hgr : g < wr.heap.size := by omega
        have hbr : b < wr.heap.size := by omega
        go_wp2_with fail
        obtain ⟨w4, hw4⟩ : ∃ w4, w4 = wr.alloc (.cells #[.int .i64 z, .string p] 57) := ⟨_, rfl⟩
        have hb4 : Below wr.heap.size wr w4 := by rw [hw4]; exact (Below.refl _ _).alloc (Nat.le_refl _) _
        have d3 : w4.cell? ⟨g, k * 2, none⟩ = some (.int .i64 z) := (hb4.cell (by exact hgr)).trans c3
        have d4 : w4.cell? ⟨g, k * 2 + 1, none⟩ = some (.string p) := (hb4.cell (by exact hgr)).trans c4
        have e0 : w4.cell? ⟨wr.heap.size, 0, none⟩ = some (.int .i64 z) := by rw [hw4]; simp
        have e1 : w4.cell? ⟨wr.heap.size, 1, none⟩ = some (.string p) := by rw [hw4]; simp
        have hb04 : Below w.heap.size w w4 := hbel.trans (hb4.mono hzb)
        rw [← hw4]
        clear hw4
        go_region
        all_goals
          go_wp2
          go_roundw
          case rel => exact ⟨k + 1, by omega, by go_num, hb04.drew⟩
          case measure => simp [intOf]; omega
      · have hk4 : ¬ (k : Int) < (n : Int) := by omega
        obtain ⟨h3, h4⟩ := HD.out.2.1 k (by omega) hlt
        have c3 : wr.cell? ⟨g, k * 2, none⟩ = some (.int .i64 (-5)) := (hbel.cell (by exact hg)).trans h3
        have c4 : wr.cell? ⟨g, k * 2 + 1, none⟩ = some (.string ⟨#[33]⟩) := (hbel.cell (by exact hg)).trans h4
        clear h3 h4
        have hgr : g < wr.heap.size := by omega
        go_wp2_with fail
        obtain ⟨w4, hw4⟩ : ∃ w4, w4 = wr.alloc (.cells #[.int .i64 (-5), .string ⟨#[33]⟩] 57) := ⟨_, rfl⟩
        have hb4 : Below wr.heap.size wr w4 := by rw [hw4]; exact (Below.refl _ _).alloc (Nat.le_refl _) _
        have d3 : w4.cell? ⟨g, k * 2, none⟩ = some (.int .i64 (-5)) := (hb4.cell (by exact hgr)).trans c3
        have d4 : w4.cell? ⟨g, k * 2 + 1, none⟩ = some (.string ⟨#[33]⟩) := (hb4.cell (by exact hgr)).trans c4
        have e0 : w4.cell? ⟨wr.heap.size, 0, none⟩ = some (.int .i64 (-5)) := by rw [hw4]; simp
        have e1 : w4.cell? ⟨wr.heap.size, 1, none⟩ = some (.string ⟨#[33]⟩) := by rw [hw4]; simp
        have hb04 : Below w.heap.size w w4 := hbel.trans (hb4.mono hzb)
        rw [← hw4]
        clear hw4
        go_region
        all_goals
          go_wp2
          go_roundw
          case rel => exact ⟨k + 1, by omega, by go_num, hb04.drew⟩
          case measure => simp [intOf]; omega
    · have hk3 : ¬ (k : Int) < (m : Int) := by omega
      go_wp2
      go_ret
      exact ⟨rfl, hbel⟩
end Go.Proofs.YtcegdgmbponapaaDoor
