/-
  The checks of pieces, where they refuse.
-/
import Derived.Test.YtcegdgmbponapaaDoorWRefuse
import Derived.Test.YtcegdgmbponapaaDoorWJoin
import Derived.BigQuiet
namespace Go.Proofs.YtcegdgmbponapaaDoor
open Go.RowKit
attribute [local go_sem ↓] Go.wp_at_zero Go.wp_at_succ

/-- A slice of pieces, their stores whatever they are. -/
def PZ (w : World) (a : Option Addr) (zs : List Int) (ps : List ByteArray) : Prop :=
  ∀ i, i < zs.length → ∃ b o, a = some ⟨b, o, none⟩ ∧ b < w.heap.size ∧ w.cell? ⟨b, o + i * 2, none⟩ = some (.int .i64 (zs.getD i 0)) ∧ w.cell? ⟨b, o + i * 2 + 1, none⟩ = some (.string (ps.getD i ByteArray.empty))

theorem PZ.keeps {B : Nat} {w w' : World} {a : Option Addr} {zs : List Int} {ps : List ByteArray} (h : PZ w a zs ps) (hb : Below B w w') (hB : w.heap.size ≤ B) : PZ w' a zs ps := by
  intro i hi
  obtain ⟨b, o, h1, h2, h3, h4⟩ := h i hi
  exact ⟨b, o, h1, Nat.lt_of_lt_of_le h2 hb.size, (hb.cell (by show b < B; omega)).trans h3, (hb.cell (by show b < B; omega)).trans h4⟩

/-- No store is named twice, and each is one. -/
def GoodSt (zs : List Int) (n : Int) : Prop := (∀ z ∈ zs, 0 ≤ z ∧ z < n) ∧ zs.Nodup

theorem first_bad (zs : List Int) (n : Int) (h : ¬ GoodSt zs n) : ∃ j, j < zs.length ∧ GoodSt (zs.take j) n ∧ (zs.getD j 0 < 0 ∨ n ≤ zs.getD j 0 ∨ zs.getD j 0 ∈ zs.take j) := by
  have key : ∀ k, k ≤ zs.length → GoodSt (zs.take k) n ∨ ∃ j, j < zs.length ∧ GoodSt (zs.take j) n ∧ (zs.getD j 0 < 0 ∨ n ≤ zs.getD j 0 ∨ zs.getD j 0 ∈ zs.take j) := by
    intro k
    induction k with
    | zero => intro _; exact .inl ⟨by simp, by simp⟩
    | succ k ih =>
      intro hk
      rcases ih (by omega) with hg | hj
      · by_cases hb : zs.getD k 0 < 0 ∨ n ≤ zs.getD k 0 ∨ zs.getD k 0 ∈ zs.take k
        · exact .inr ⟨k, by omega, hg, hb⟩
        · left
          rw [take_snoc zs k 0 (by omega)]
          refine ⟨fun z hz => ?_, ?_⟩
          · rcases List.mem_append.1 hz with hz | hz
            · exact hg.1 z hz
            · obtain rfl := List.mem_singleton.1 hz; omega
          · rw [List.nodup_append]
            refine ⟨hg.2, by simp, fun a ha b hb' => ?_⟩
            obtain rfl := List.mem_singleton.1 hb'
            intro e
            exact hb (.inr (.inr (e ▸ ha)))
      · exact .inr hj
  rcases key zs.length (Nat.le_refl _) with hg | hj
  · rw [List.take_length] at hg; exact absurd hg h
  · exact hj

set_option maxRecDepth 100000 in
set_option maxHeartbeats 1000000 in
theorem checkStores_bad (aP : Option Addr) (m c n : Nat) (zs : List Int) (ps : List ByteArray) (w : World) (em : m = zs.length) (hr : PZ w aP zs ps) (hm : m ≤ maxLen) (hn : n ≤ 8) (hz : ∀ z ∈ zs, I64 z) (hbad : ¬ GoodSt zs n) (hT : Tab w) :
    Calls Tryd.prog 76 #[.slice aP m c, .int .i64 n] w fun e w' => ∃ ev, e = .returned ev ∧ Chain w' 13 1 ev ∧ Below w.heap.size w w' := by
  obtain ⟨j0, hj0, hg, hb0⟩ := first_bad zs n hbad
  have EM := hid em
  have HG := hid hg
  have HB0 := hid hb0
  have HZ := hid hz
  have HT := hid hT
  have hjm : j0 < m := by omega
  clear em hg hbad hz hb0 hT
  go_enter Tryd.func76, Tryd.ntmps76
  go_wp2_with fail
  go_loopw [10] (fun i wr => ∃ k : Nat, k ≤ j0 ∧ i = .int .i64 k ∧ (∀ j, j < 8 → wr.cell? ⟨w.heap.size, j, none⟩ = some (.bool (decide ((j : Int) ∈ zs.take k))) ∧ wr.frozen? ⟨w.heap.size, j, none⟩ = false) ∧ w.heap.size < wr.heap.size ∧ Below w.heap.size w wr) (fun i _ => m - (intOf i).toNat)
  case atStart =>
    refine ⟨0, Nat.zero_le _, rfl, fun j hj => ?_, by simp, (Below.refl _ _).alloc (Nat.le_refl _) _⟩
    have : j = 0 ∨ j = 1 ∨ j = 2 ∨ j = 3 ∨ j = 4 ∨ j = 5 ∨ j = 6 ∨ j = 7 := by omega
    rcases this with rfl | rfl | rfl | rfl | rfl | rfl | rfl | rfl <;> simp
  case round =>
    obtain ⟨k, hk, rfl, hnm, hz, hbel⟩ := hrel
    have hzb := hbel.size
    have HNM := hid hnm
    clear hnm
    have hkl : k < zs.length := by omega
    obtain ⟨b, o, rfl, hb, h1, h2⟩ := hr k hkl
    have c1 : wr.cell? ⟨b, o + k * 2, none⟩ = some (.int .i64 (zs.getD k 0)) := (hbel.cell (by exact hb)).trans h1
    have c2 : wr.cell? ⟨b, o + k * 2 + 1, none⟩ = some (.string (ps.getD k ByteArray.empty)) := (hbel.cell (by exact hb)).trans h2
    have hk1 : (k : Int) < (m : Int) := by omega
    have hkm : (k : Int) ≤ 9223372036854775806 := by unfold maxLen at hm; omega
    have hb1 : ∀ c, Below wr.heap.size wr (wr.alloc c) := fun c => (Below.refl _ _).alloc (Nat.le_refl _) c
    by_cases hlt : k < j0
    · have hmem : zs.getD k 0 ∈ zs.take j0 := by
        rw [show zs.getD k 0 = (zs.take j0)[k]'(by simp; omega) by simp [hkl]]
        exact List.getElem_mem _
      have hzk := HG.out.1 _ hmem
      obtain ⟨s, hs⟩ : ∃ s : Nat, zs.getD k 0 = (s : Int) := ⟨(zs.getD k 0).toNat, by omega⟩
      have hnot : (s : Int) ∉ zs.take k := by
        rw [← hs]
        intro hm2
        obtain ⟨i, hi, e⟩ := List.getElem_of_mem hm2
        have hik : i < k := by simp at hi; omega
        have hnd := HG.out.2
        have e2 : (zs.take j0)[i]'(by simp; omega) = (zs.take j0)[k]'(by simp; omega) := by
          rw [List.getElem_take] at e ⊢
          rw [e, List.getElem_take]; simp [hkl]
        have := (List.getElem_inj hnd (h₀ := by simp; omega) (h₁ := by simp; omega)).1 e2
        omega
      obtain ⟨hcs, hfs⟩ := HNM.out s (by omega)
      rw [decide_eq_false hnot] at hcs
      have HTK := hid (show zs.take (k + 1) = zs.take k ++ [(s : Int)] by rw [take_snoc zs k 0 hkl, hs])
      rw [hs] at c1
      generalize ps.getD k ByteArray.empty = p at *
      have hs0 : (0 : Int) ≤ (s : Int) := by omega
      have hs1 : (s : Int) < (n : Int) := by omega
      have hs8 : (s : Int) < 8 := by omega
      have q1 : ∀ c, (wr.alloc c).cell? ⟨w.heap.size, s, none⟩ = some (.bool false) := fun c => ((hb1 c).cell (by exact hz)).trans hcs
      have q2 : ∀ c, (wr.alloc c).frozen? ⟨w.heap.size, s, none⟩ = false := fun c => ((hb1 c).frozen (by exact hz)).trans hfs
      clear h1 h2 hr hs hnot hb1 hmem hzk
      go_wp2_with fail
      go_roundw
      case rel =>
        refine ⟨k + 1, by omega, by go_num, fun j hj => ?_, by simp; omega, (hbel.setCell (p := ⟨w.heap.size, s, none⟩) (Nat.le_refl _) _).alloc (by simp; omega) _⟩
        rw [World.cell?_alloc_lt _ _ ⟨w.heap.size, j, none⟩ (by simpa using hz), World.frozen?_alloc_old _ _ ⟨w.heap.size, j, none⟩ (by simp; omega)]
        obtain ⟨h1, h2⟩ := HNM.out j hj
        refine ⟨?_, by simpa using h2⟩
        rw [HTK.out]
        by_cases hjs : j = s
        · subst hjs
          rw [World.cell?_setCell_same _ _ _ hcs]
          simp
        · rw [World.cell?_setCell_other _ _ _ _ (by intro e; apply hjs; injection e with _ e2; exact e2.symm), h1]
          simp
          intro h
          omega
      case measure => simp [intOf]; omega
    · have hkj : k = j0 := by omega
      subst hkj
      have HZI := hid (HZ.out (zs.getD k 0) (by rw [show zs.getD k 0 = zs[k] by simp [hkl]]; exact List.getElem_mem hkl))
      obtain ⟨z, hzz⟩ : ∃ z, z = zs.getD k 0 := ⟨_, rfl⟩
      rw [← hzz] at c1 HB0 HZI
      generalize ps.getD k ByteArray.empty = p at *
      have hba := (Below.refl wr.heap.size wr).alloc (Nat.le_refl _) (.cells #[.int .i64 z, .string p] 57)
      have HTA := hid ((HT.out.keeps hbel (Nat.le_refl _)).keeps hba (Nat.le_refl _))
      have hfin : ∀ w2, Below (wr.alloc (.cells #[.int .i64 z, .string p] 57)).heap.size (wr.alloc (.cells #[.int .i64 z, .string p] 57)) w2 → Below w.heap.size w w2 := fun w2 h => (hbel.trans (hba.mono hzb)).trans (h.mono (by simp; omega))
      have HFIN := hid hfin
      rcases HB0.out with hneg | hrest
      · clear h1 h2 hr hzz hb1 hfin
        go_wp2_with (go_at_call 85; refine (atStore_any z _ 13 0 _ HZI.out HTA.out .hit).mono ?_; rintro e w2 ⟨e', rfl, hch, hb2⟩)
        go_ret
        exact ⟨_, rfl, hch, HFIN.out _ hb2⟩
      · by_cases hneg : z < 0
        · clear h1 h2 hr hzz hb1 hfin hrest
          go_wp2_with (go_at_call 85; refine (atStore_any z _ 13 0 _ HZI.out HTA.out .hit).mono ?_; rintro e w2 ⟨e', rfl, hch, hb2⟩)
          go_ret
          exact ⟨_, rfl, hch, HFIN.out _ hb2⟩
        · by_cases hge : (n : Int) ≤ z
          · clear h1 h2 hr hzz hb1 hfin hrest
            go_wp2_with (go_at_call 85; refine (atStore_any z _ 13 0 _ HZI.out HTA.out .hit).mono ?_; rintro e w2 ⟨e', rfl, hch, hb2⟩)
            go_ret
            exact ⟨_, rfl, hch, HFIN.out _ hb2⟩
          · have hmem : z ∈ zs.take k := by
              rcases hrest with h | h
              · omega
              · exact h
            obtain ⟨s, rfl⟩ : ∃ s : Nat, z = (s : Int) := ⟨z.toNat, by omega⟩
            obtain ⟨hcs, hfs⟩ := HNM.out s (by omega)
            rw [decide_eq_true hmem] at hcs
            have hs0 : (0 : Int) ≤ (s : Int) := by omega
            have hs1 : (s : Int) < (n : Int) := by omega
            have hs8 : (s : Int) < 8 := by omega
            have q1 : ∀ c, (wr.alloc c).cell? ⟨w.heap.size, s, none⟩ = some (.bool true) := fun c => ((hb1 c).cell (by exact hz)).trans hcs
            clear h1 h2 hr hzz hb1 hfin hrest hmem
            go_wp2_with (go_at_call 85; refine (atStore_any s _ 13 0 _ HZI.out HTA.out .hit).mono ?_; rintro e w2 ⟨e', rfl, hch, hb2⟩)
            go_ret
            exact ⟨_, rfl, hch, HFIN.out _ hb2⟩

theorem first_long (ps : List ByteArray) (m G : Nat) (h : ¬ ∀ i, i < m → (ps.getD i ByteArray.empty).size = G) : ∃ j, j < m ∧ (∀ i, i < j → (ps.getD i ByteArray.empty).size = G) ∧ (ps.getD j ByteArray.empty).size ≠ G := by
  induction m with
  | zero => exact absurd (fun i hi => by omega) h
  | succ m ih =>
    by_cases h1 : ∀ i, i < m → (ps.getD i ByteArray.empty).size = G
    · refine ⟨m, by omega, h1, fun e => h fun i hi => ?_⟩
      rcases Nat.lt_or_ge i m with h2 | h2
      · exact h1 i h2
      · rw [show i = m by omega]; exact e
    · obtain ⟨j, h2, h3, h4⟩ := ih h1
      exact ⟨j, by omega, h3, h4⟩

set_option maxRecDepth 100000 in
set_option maxHeartbeats 1000000 in
theorem checkLengths_bad (aP : Option Addr) (m c G : Nat) (zs : List Int) (ps : List ByteArray) (w : World) (em : m = zs.length) (hr : PZ w aP zs ps) (hm : m ≤ maxLen) (hz : ∀ z ∈ zs, I64 z) (hps : ∀ i, i < m → (ps.getD i ByteArray.empty).size ≤ maxLen) (hbad : ¬ ∀ i, i < m → (ps.getD i ByteArray.empty).size = G) (hT : Tab w) :
    Calls Tryd.prog 77 #[.slice aP m c, .int .i64 G] w fun e w' => ∃ ev, e = .returned ev ∧ Chain w' 12 2 ev ∧ Below w.heap.size w w' := by
  obtain ⟨j0, hj0, hg, hb0⟩ := first_long ps m G hbad
  have EM := hid em
  have HG := hid hg
  have HB0 := hid hb0
  have HZ := hid hz
  have HT := hid hT
  have HPS := hid hps
  clear em hg hbad hz hb0 hT hps
  go_enter Tryd.func77, Tryd.ntmps77
  go_wp2_with fail
  go_loopw [9] (fun i wr => ∃ k : Nat, k ≤ j0 ∧ i = .int .i64 k ∧ Below w.heap.size w wr) (fun i _ => m - (intOf i).toNat)
  case atStart => exact ⟨0, Nat.zero_le _, rfl, Below.refl _ _⟩
  case round =>
    obtain ⟨k, hk, rfl, hbel⟩ := hrel
    have hzb := hbel.size
    have hkl : k < zs.length := by rw [← EM.out]; omega
    obtain ⟨b, o, rfl, hb, h1, h2⟩ := hr k hkl
    have c1 : wr.cell? ⟨b, o + k * 2, none⟩ = some (.int .i64 (zs.getD k 0)) := (hbel.cell (by exact hb)).trans h1
    have c2 : wr.cell? ⟨b, o + k * 2 + 1, none⟩ = some (.string (ps.getD k ByteArray.empty)) := (hbel.cell (by exact hb)).trans h2
    have hk1 : (k : Int) < (m : Int) := by omega
    have hkm : (k : Int) ≤ 9223372036854775806 := by unfold maxLen at hm; omega
    by_cases hlt : k < j0
    · have hsz := HG.out k hlt
      generalize ps.getD k ByteArray.empty = p at *
      generalize zs.getD k 0 = s at *
      have hne : ((p.size : Int) != (G : Int)) = false := by rw [hsz]; simp
      clear h1 h2 hsz hr
      go_wp2_with fail
      go_roundw
      case rel => exact ⟨k + 1, by omega, by go_num, hbel.alloc hzb _⟩
      case measure => simp [intOf]; omega
    · have hkj : k = j0 := by omega
      subst hkj
      have HZI := hid (HZ.out (zs.getD k 0) (by rw [show zs.getD k 0 = zs[k] by simp [hkl]]; exact List.getElem_mem hkl))
      have hpm := HPS.out k hj0
      have hne0 := HB0.out
      generalize ps.getD k ByteArray.empty = p at *
      generalize zs.getD k 0 = z at *
      have HPI := hid (show I64 (p.size : Int) by unfold I64; unfold maxLen at hpm; omega)
      have hne : ((p.size : Int) != (G : Int)) = true := by rw [bne_iff_ne]; omega
      obtain ⟨w1, hw1⟩ : ∃ w1, w1 = wr.alloc (.cells #[.int .i64 z, .string p] 57) := ⟨_, rfl⟩
      have hba : Below wr.heap.size wr w1 := by rw [hw1]; exact (Below.refl wr.heap.size wr).alloc (Nat.le_refl _) _
      have d0 : w1.cell? ⟨wr.heap.size, 0, none⟩ = some (.int .i64 z) := by rw [hw1]; simp
      have d1 : w1.cell? ⟨wr.heap.size, 1, none⟩ = some (.string p) := by rw [hw1]; simp
      have hz1 : wr.heap.size < w1.heap.size := by rw [hw1]; simp
      have HT1 := hid ((HT.out.keeps hbel (Nat.le_refl _)).keeps hba (Nat.le_refl _))
      have hb01 : Below w.heap.size w w1 := hbel.trans (hba.mono hzb)
      clear h1 h2 hr hne0 hpm
      go_wp2_with fail
      rw [← hw1]
      clear hw1
      go_region_held3 (fun w' => w'.cell? ⟨wr.heap.size, 0, none⟩ = some (.int .i64 z) ∧ w'.cell? ⟨wr.heap.size, 1, none⟩ = some (.string p)) (first | exact ⟨z0, z1⟩ | exact ⟨y0, y1⟩ | exact ⟨d0, d1⟩ | go_keep)
        (first
          | (go_at_call 61; refine (atCount_any (p.size : Int) _ _ 12 0 _ HPI.out (by decide) (by exact HT1.out.keeps (Below.refl _ _).drew (Nat.le_refl _)) .hit).mono ?_; rintro e w3 ⟨e3, rfl, hch3, hb3⟩; have hb13 : Below w1.heap.size w1 w3 := ((Below.refl _ _).drew).trans hb3; have hz3 := hb13.size; have HC3 := hid hch3; clear hch3; have y0 : w3.cell? ⟨wr.heap.size, 0, none⟩ = some (.int .i64 z) := (hb13.cell (by exact hz1)).trans d0; have y1 : w3.cell? ⟨wr.heap.size, 1, none⟩ = some (.string p) := (hb13.cell (by exact hz1)).trans d1)
          | (go_at_call 85; refine (atStore_any z _ 12 1 _ HZI.out (by exact HT1.out.keeps hb13 (Nat.le_refl _)) HC3.out).mono ?_; rintro e w4 ⟨e4, rfl, hch4, hb4⟩; have hb14 : Below w1.heap.size w1 w4 := hb13.trans (hb4.mono hz3); have hz4 := hb14.size; have HC4 := hid hch4; clear hch4; have z0 : w4.cell? ⟨wr.heap.size, 0, none⟩ = some (.int .i64 z) := (hb14.cell (by exact hz1)).trans d0; have z1 : w4.cell? ⟨wr.heap.size, 1, none⟩ = some (.string p) := (hb14.cell (by exact hz1)).trans d1))
      go_wp2
      go_ret
      exact ⟨_, rfl, HC4.out, hb01.trans (hb14.mono hb01.size)⟩
end Go.Proofs.YtcegdgmbponapaaDoor
