/-
  The walks of cutting's checks of pieces, where the pieces are right; too few of them.
-/
import Derived.Test.YtcegdgmbponapaaDoorWNumber
namespace Go.Proofs.YtcegdgmbponapaaDoor
open Go.RowKit
attribute [local go_sem ↓] Go.wp_at_zero Go.wp_at_succ

/-- A slice of pieces: their stores, their bytes. -/
def PRd (w : World) (a : Option Addr) (ss : List Nat) (ps : List ByteArray) : Prop :=
  ∀ i, i < ss.length → ∃ b o, a = some ⟨b, o, none⟩ ∧ b < w.heap.size ∧ w.cell? ⟨b, o + i * 2, none⟩ = some (.int .i64 (ss.getD i 0 : Nat)) ∧ w.cell? ⟨b, o + i * 2 + 1, none⟩ = some (.string (ps.getD i ByteArray.empty))

theorem PRd.keeps {B : Nat} {w w' : World} {a : Option Addr} {ss : List Nat} {ps : List ByteArray} (h : PRd w a ss ps) (hb : Below B w w') (hB : w.heap.size ≤ B) : PRd w' a ss ps := by
  intro i hi
  obtain ⟨b, o, h1, h2, h3, h4⟩ := h i hi
  exact ⟨b, o, h1, Nat.lt_of_lt_of_le h2 hb.size, (hb.cell (by show b < B; omega)).trans h3, (hb.cell (by show b < B; omega)).trans h4⟩

theorem threshold_any (ag at' : Option Addr) (gs cg ts ct ng : Nat) (w : World) (h1 : gs ≤ 100) (h2 : ts ≤ 100) :
    Calls Tryd.prog 57 #[.agg #[.slice ag gs cg, .slice at' ts ct, .int .i64 ng]] w fun e w' => e = .returned (.int .i64 ((gs + ts : Nat) : Int)) ∧ Below w.heap.size w w' := by
  go_enter Tryd.func57, Tryd.ntmps57
  go_wp2
  first
  | (go_ret; exact ⟨ret_int (by omega), (Below.refl _ _).alloc (Nat.le_refl _) _⟩)
  | (go_quiet (fail); go_wp2; go_ret; exact ⟨ret_int (by omega), below_drewN ((Below.refl _ _).alloc (Nat.le_refl _) _) _⟩)

/-! The numeral of a small number. -/
theorem small_lt (i : Nat) (h : i < 10) (w : World) :
    Calls Tryd.prog 93 #[.int .i64 i] w fun e w' => (∃ s : ByteArray, e = .returned (.string s) ∧ s.size ≤ 2) ∧ w' = w := by
  go_enter Tryd.func93, Tryd.ntmps93
  go_wp2
  go_ret
  exact ⟨⟨_, rfl, by simp; omega⟩, rfl⟩

theorem itoa_small (i : Nat) (h : i < 10) (w : World) :
    Calls Tryd.prog 79 #[.int .i64 i] w fun e w' => (∃ s : ByteArray, e = .returned (.string s) ∧ s.size ≤ 2) ∧ w' = w := by
  have h1 : Calls Tryd.prog 91 #[.int .i64 i, .int .i64 10] w fun e w' => (∃ s : ByteArray, e = .returned (.string s) ∧ s.size ≤ 2) ∧ w' = w := by
    go_enter Tryd.func91, Tryd.ntmps91
    go_wp2_with (go_at_call 93; refine (small_lt i h _).mono ?_; rintro e w1 ⟨⟨s, rfl, hs⟩, rfl⟩)
    go_ret
    exact ⟨⟨_, rfl, hs⟩, rfl⟩
  have h2 : Calls Tryd.prog 86 #[.int .i64 i] w fun e w' => (∃ s : ByteArray, e = .returned (.string s) ∧ s.size ≤ 2) ∧ w' = w := by
    go_enter Tryd.func86, Tryd.ntmps86
    go_wp2_with (go_at_call 91; refine h1.mono ?_; rintro e w1 ⟨⟨s, rfl, hs⟩, rfl⟩)
    go_ret
    exact ⟨⟨_, rfl, hs⟩, rfl⟩
  go_enter Tryd.func79, Tryd.ntmps79
  go_wp2_with (go_at_call 86; refine h2.mono ?_; rintro e w1 ⟨⟨s, rfl, hs⟩, rfl⟩)
  go_ret
  exact ⟨⟨_, rfl, hs⟩, rfl⟩

theorem atCount_small (i : Nat) (what : ByteArray) (e : Value) (k : Int) (d : Nat) (h : i < 10) (hw : what.size ≤ 100) (w : World) (hc : Chain w k d e) :
    Calls Tryd.prog 61 #[.int .i64 i, .string what, e] w fun ev w' => ∃ e', ev = .returned e' ∧ Chain w' k (d + 1) e' ∧ Below w.heap.size w w' := by
  obtain ⟨te, ve, rfl⟩ := hc.shape
  have HC := hid hc
  clear hc
  go_enter Tryd.func61, Tryd.ntmps61
  go_wp2_with (first | (go_at_call 79; refine (itoa_small i h _).mono ?_; rintro e w1 ⟨⟨s, rfl, hs⟩, rfl⟩) | (go_at_call 45; refine (at_chain _ _ k d _ HC.out).mono ?_; rintro e w2 ⟨e', rfl, hch, hb2⟩))
  go_ret
  exact ⟨_, rfl, hch, hb2⟩

set_option maxRecDepth 100000 in
set_option maxHeartbeats 1000000 in
theorem checkLengths_ok (aP : Option Addr) (m c G : Nat) (ss : List Nat) (ps : List ByteArray) (w : World) (em : m = ss.length) (hr : PRd w aP ss ps) (hm : m ≤ 100) (hlen : ∀ i, i < m → (ps.getD i ByteArray.empty).size = G) :
    Calls Tryd.prog 77 #[.slice aP m c, .int .i64 G] w fun e w' => e = .returned .nilIface ∧ Below w.heap.size w w' := by
  have EM := hid em
  have HL := hid hlen
  clear em hlen
  go_enter Tryd.func77, Tryd.ntmps77
  go_wp2_with fail
  go_loopw [9] (fun i wr => ∃ k : Nat, k ≤ m ∧ i = .int .i64 k ∧ Below w.heap.size w wr) (fun i _ => m - (intOf i).toNat)
  case atStart => exact ⟨0, Nat.zero_le _, rfl, Below.refl _ _⟩
  case round =>
    obtain ⟨k, hk, rfl, hbel⟩ := hrel
    have hzb := hbel.size
    by_cases hlt : k < m
    · obtain ⟨b, o, rfl, hb, h1, h2⟩ := hr k (by rw [← EM.out]; exact hlt)
      have c1 : wr.cell? ⟨b, o + k * 2, none⟩ = some (.int .i64 (ss.getD k 0 : Nat)) := (hbel.cell (by exact hb)).trans h1
      have c2 : wr.cell? ⟨b, o + k * 2 + 1, none⟩ = some (.string (ps.getD k ByteArray.empty)) := (hbel.cell (by exact hb)).trans h2
      have hsz := HL.out k hlt
      generalize ps.getD k ByteArray.empty = p at *
      generalize ss.getD k 0 = s at *
      have hk1 : (k : Int) < (m : Int) := by omega
      have hne : ((p.size : Int) != (G : Int)) = false := by rw [hsz]; simp
      clear h1 h2 hsz hr
      go_wp2_with fail
      go_roundw
      case rel => exact ⟨k + 1, by omega, by go_num, hbel.alloc hzb _⟩
      case measure => simp [intOf]; omega
    · go_wp2
      go_ret
      exact ⟨rfl, hbel⟩

set_option maxRecDepth 100000 in
set_option maxHeartbeats 1000000 in
theorem checkStores_ok (aP : Option Addr) (m c n : Nat) (ss : List Nat) (ps : List ByteArray) (w : World) (em : m = ss.length) (hr : PRd w aP ss ps) (hm : m ≤ 100) (hn : n ≤ 8) (hss : ∀ s ∈ ss, s < n) (hnd : ss.Nodup) :
    Calls Tryd.prog 76 #[.slice aP m c, .int .i64 n] w fun e w' => e = .returned .nilIface ∧ Below w.heap.size w w' := by
  have EM := hid em
  have HSS := hid hss
  have HND := hid hnd
  clear em hss hnd
  go_enter Tryd.func76, Tryd.ntmps76
  go_wp2_with fail
  go_loopw [10] (fun i wr => ∃ k : Nat, k ≤ m ∧ i = .int .i64 k ∧ (∀ j, j < 8 → wr.cell? ⟨w.heap.size, j, none⟩ = some (.bool (decide (j ∈ ss.take k))) ∧ wr.frozen? ⟨w.heap.size, j, none⟩ = false) ∧ w.heap.size < wr.heap.size ∧ Below w.heap.size w wr) (fun i _ => m - (intOf i).toNat)
  case atStart =>
    refine ⟨0, Nat.zero_le _, rfl, fun j hj => ?_, by simp, (Below.refl _ _).alloc (Nat.le_refl _) _⟩
    have : j = 0 ∨ j = 1 ∨ j = 2 ∨ j = 3 ∨ j = 4 ∨ j = 5 ∨ j = 6 ∨ j = 7 := by omega
    rcases this with rfl | rfl | rfl | rfl | rfl | rfl | rfl | rfl <;> simp
  case round =>
    obtain ⟨k, hk, rfl, hnm, hz, hbel⟩ := hrel
    have hzb := hbel.size
    have HNM := hid hnm
    clear hnm
    by_cases hlt : k < m
    · have hkl : k < ss.length := by rw [← EM.out]; exact hlt
      obtain ⟨b, o, rfl, hb, h1, h2⟩ := hr k hkl
      have c1 : wr.cell? ⟨b, o + k * 2, none⟩ = some (.int .i64 (ss.getD k 0 : Nat)) := (hbel.cell (by exact hb)).trans h1
      have c2 : wr.cell? ⟨b, o + k * 2 + 1, none⟩ = some (.string (ps.getD k ByteArray.empty)) := (hbel.cell (by exact hb)).trans h2
      obtain ⟨s, hs⟩ : ∃ s, s = ss.getD k 0 := ⟨_, rfl⟩
      have hsk : s = ss[k] := by rw [hs]; simp [hkl]
      have hsn : s < n := by rw [hsk]; exact HSS.out _ (List.getElem_mem hkl)
      have hnot : s ∉ ss.take k := by
        rw [hsk]
        intro hmem
        obtain ⟨i, hi, e⟩ := List.getElem_of_mem hmem
        have hik : i < k := by simp at hi; omega
        rw [List.getElem_take] at e
        have := (List.getElem_inj HND.out (h₀ := by omega) (h₁ := hkl)).1 e
        omega
      obtain ⟨hcs, hfs⟩ := HNM.out s (by omega)
      rw [decide_eq_false hnot] at hcs
      have HTK := hid (show ss.take (k + 1) = ss.take k ++ [s] by rw [List.take_succ_eq_append_getElem hkl, hsk])
      rw [← hs] at c1
      generalize ps.getD k ByteArray.empty = p at *
      have hk1 : (k : Int) < (m : Int) := by omega
      have hs0 : (0 : Int) ≤ (s : Int) := by omega
      have hs1 : (s : Int) < (n : Int) := by omega
      have hs8 : (s : Int) < 8 := by omega
      clear h1 h2 hr hs hsk hnot
      have hb1 : ∀ c, Below wr.heap.size wr (wr.alloc c) := fun c => (Below.refl _ _).alloc (Nat.le_refl _) c
      have q1 : ∀ c, (wr.alloc c).cell? ⟨w.heap.size, s, none⟩ = some (.bool false) := fun c => ((hb1 c).cell (by exact hz)).trans hcs
      have q2 : ∀ c, (wr.alloc c).frozen? ⟨w.heap.size, s, none⟩ = false := fun c => ((hb1 c).frozen (by exact hz)).trans hfs
      clear hb1
      go_wp2_with fail
      go_roundw
      case rel =>
        refine ⟨k + 1, by omega, by go_num, fun j hj => ?_, by simp; omega, (hbel.setCell (p := ⟨w.heap.size, s, none⟩) (Nat.le_refl _) _).alloc (by simp; omega) _⟩
        rw [World.cell?_alloc_lt _ _ ⟨w.heap.size, j, none⟩ (by simpa using hz), World.frozen?_alloc_old _ _ ⟨w.heap.size, j, none⟩ (by simp; omega)]
        obtain ⟨h1, h2⟩ := HNM.out j hj
        refine ⟨?_, by simpa using h2⟩
        rw [HTK.out]
        by_cases hjs : j = s
        · subst hjs
          rw [World.cell?_setCell_same _ _ _ hcs]
          simp
        · rw [World.cell?_setCell_other _ _ _ _ (by intro e; apply hjs; injection e with _ e2; exact e2.symm), h1]
          simp [hjs]
      case measure => simp [intOf]; omega
    · go_wp2
      go_ret
      exact ⟨rfl, hbel⟩

set_option maxRecDepth 100000 in
set_option maxHeartbeats 1000000 in
/-- The pieces are right: there are enough of them, or too few. -/
theorem checkPieces_any (aP : Option Addr) (m c n : Nat) (ss : List Nat) (ps : List ByteArray) (ag at' : Option Addr) (gs cg ts ct G : Nat) (w : World) (em : m = ss.length) (hr : PRd w aP ss ps) (hm : m ≤ 9) (hn : n ≤ 8) (hss : ∀ s ∈ ss, s < n) (hnd : ss.Nodup)
    (hlen : ∀ i, i < m → (ps.getD i ByteArray.empty).size = G) (h1 : gs ≤ 100) (h2 : ts ≤ 100) :
    Calls Tryd.prog 56 #[.slice aP m c, .int .i64 n, .agg #[.slice ag gs cg, .slice at' ts ct, .int .i64 G]] w fun e w' =>
      ∃ ev, e = .returned ev ∧ Below w.heap.size w w' ∧ (gs + ts ≤ m → ev = .nilIface) ∧ (m < gs + ts → Chain w' 10 1 ev) := by
  obtain ⟨N, hN⟩ : ∃ N, N = gs + ts := ⟨_, rfl⟩
  have hthr := fun w => threshold_any ag at' gs cg ts ct G w h1 h2
  rw [← hN] at hthr
  have HTH := hid hthr
  have HN := hid hN
  have hN2 : N ≤ 200 := by omega
  clear hthr hN
  have EM := hid em
  clear em
  go_enter Tryd.func56, Tryd.ntmps56
  go_wp2_with fail
  refine (checkStores_ok aP m c n ss ps _ EM.out (by exact hr.keeps ((Below.refl _ _).alloc (Nat.le_refl _) _) (Nat.le_refl _)) (by omega) hn hss hnd).mono ?_
  rintro e w1 ⟨rfl, hb1⟩
  have hz1 : w.heap.size < w1.heap.size := by have := hb1.size; simp at this; omega
  have hb01 : Below w.heap.size w w1 := ((Below.refl _ _).alloc (Nat.le_refl _) _).trans (hb1.mono (by simp))
  have c0 : w1.cell? ⟨w.heap.size, 0, none⟩ = some (.slice ag gs cg) := (hb1.cell (by simp)).trans (by simp)
  have c1 : w1.cell? ⟨w.heap.size, 1, none⟩ = some (.slice at' ts ct) := (hb1.cell (by simp)).trans (by simp)
  have c2 : w1.cell? ⟨w.heap.size, 2, none⟩ = some (.int .i64 G) := (hb1.cell (by simp)).trans (by simp)
  clear hb1
  go_wp2_with fail
  refine (checkLengths_ok aP m c G ss ps _ EM.out (by exact hr.keeps hb01 (Nat.le_refl _)) (by omega) hlen).mono ?_
  rintro e w2 ⟨rfl, hb2⟩
  have hz2 := hb2.size
  have d0 : w2.cell? ⟨w.heap.size, 0, none⟩ = some (.slice ag gs cg) := (hb2.cell (by exact hz1)).trans c0
  have d1 : w2.cell? ⟨w.heap.size, 1, none⟩ = some (.slice at' ts ct) := (hb2.cell (by exact hz1)).trans c1
  have d2 : w2.cell? ⟨w.heap.size, 2, none⟩ = some (.int .i64 G) := (hb2.cell (by exact hz1)).trans c2
  have hb02 : Below w.heap.size w w2 := hb01.trans (hb2.mono (by omega))
  clear hb2 hb01 c0 c1 c2
  go_wp2_with fail
  refine (HTH.out _).mono ?_
  rintro e w3 ⟨rfl, hb3⟩
  have hb03 : Below w.heap.size w w3 := hb02.trans (hb3.mono (by omega))
  by_cases hlt : m < N
  · have hlt' : (m : Int) < (N : Int) := by omega
    go_wp2_with fail
    refine (atCount_small m _ _ 10 0 (by omega) (by decide) _ .hit).mono ?_
    rintro e w5 ⟨e', rfl, hch, hb5⟩
    go_wp2_with fail
    go_ret
    exact ⟨_, rfl, hb03.trans (hb5.mono hb03.size), fun h => by rw [← HN.out] at h; omega, fun _ => hch⟩
  · have hlt' : ¬ (m : Int) < (N : Int) := by omega
    go_wp2_with fail
    go_ret
    exact ⟨_, rfl, hb03, fun _ => rfl, fun h => by rw [← HN.out] at h; omega⟩
end Go.Proofs.YtcegdgmbponapaaDoor
