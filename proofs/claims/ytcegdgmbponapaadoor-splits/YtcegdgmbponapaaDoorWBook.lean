/-
  The walks of the Book: keepTexts, reads.
-/
import Derived.Test.YtcegdgmbponapaaDoorWLaw
import Derived.BigQuiet
namespace Go.Proofs.YtcegdgmbponapaaDoor
open Go.RowKit
attribute [local go_sem ↓] Go.wp_at_zero Go.wp_at_succ

theorem marks_set (M : Value) (L : List Value) (k : Nat) (h : k < L.length) : (List.replicate k M ++ L.drop k).set k M = List.replicate (k + 1) M ++ L.drop (k + 1) := by
  rw [List.set_append_right _ _ (by simp)]
  simp only [List.length_replicate, Nat.sub_self]
  rw [List.drop_eq_getElem_cons h, List.set_cons_zero, List.replicate_succ', List.append_assoc]
  rfl

/-- What a Book holds in which four lists are kept. -/
def Kept (M : ByteArray) (w : World) (B n : Nat) : Prop :=
  ∃ (tg c4 : Nat) (A : Nat → Option Addr) (C : Nat → Nat), w.cell? ⟨B, 0, none⟩ = some (.slice (some ⟨tg, 0, none⟩) 4 c4) ∧ w.cell? ⟨B, 1, none⟩ = some (.slice none 0 0) ∧ B < w.heap.size ∧ tg < w.heap.size ∧
    (∀ i, i < 4 → w.cell? ⟨tg, i, none⟩ = some (.slice (A i) (n + i) (C i))) ∧ ∀ i, i < 4 → Rd w (A i) (List.replicate (n + i) (.string M))

theorem Kept.below {M : ByteArray} {B' : Nat} {w w' : World} {B n : Nat} (h : Kept M w B n) (hb : Below B' w w') (hB : w.heap.size ≤ B') : Kept M w' B n := by
  obtain ⟨tg, c4, A, C, h1, h2, h3, h4, h5, h6⟩ := h
  refine ⟨tg, c4, A, C, (hb.cell (by show B < B'; omega)).trans h1, (hb.cell (by show B < B'; omega)).trans h2, Nat.lt_of_lt_of_le h3 hb.size, Nat.lt_of_lt_of_le h4 hb.size, fun i hi => (hb.cell (by show tg < B'; omega)).trans (h5 i hi), fun i hi => (h6 i hi).below hb hB⟩

theorem Rd.holds {w : World} {ao : Option Addr} {cs : List Value} (h : Rd w ao cs) (b : Addr) (hb : ao = some b) (j : Nat) (u : Value) (hj : cs[j]? = some u) : w.cell? (b.add j) = some u := by
  obtain ⟨b', o, e, _, hc⟩ := h j u hj
  rw [e] at hb
  obtain rfl := Option.some.inj hb
  rw [add_at]; exact hc

theorem Tryd.infoSS : (Tryd.prog.info? 24).map (fun i => (i.zero, i.size, i.bytes)) = some (some (.slice none 0 0), 1, 24) := by kernel_rfl

set_option maxRecDepth 100000 in
set_option maxHeartbeats 1000000 in
theorem keepTexts_any (B n base : Nat) (ao : Option Addr) (L : List Value) (w : World) (hn : n ≤ 8) (hown : w.ownsRow base 9 1 (.slice ao n n) n L) (hbase : base ≤ w.heap.size) (hno : ao = none → n = 0) (hB : ∀ g, ao = some ⟨g, 0, none⟩ → g ≠ B)
    (c0 : w.cell? ⟨B, 0, none⟩ = some (.slice none 0 0)) (c1 : w.cell? ⟨B, 1, none⟩ = some (.slice none 0 0)) (f0 : w.frozen? ⟨B, 0, none⟩ = false) (hBz : B < w.heap.size) (hbB : base ≤ B) :
    Calls Tryd.prog 12 #[.pointer (some ⟨B, 0, none⟩), .slice ao n n] w fun e w' => e = .returned (.tuple #[]) ∧ Kept mark w' B n ∧ Below base w w' ∧ ∀ x, x < w.heap.size → x ≠ B → ao ≠ some ⟨x, 0, none⟩ → w'.heap[x]? = w.heap[x]? := by
  obtain ⟨iS, hiS, hs0, hs1, hs2⟩ := info_parts Tryd.infoS
  obtain ⟨iT, hiT, ht0, ht1, ht2⟩ := info_parts Tryd.infoSS
  have hLl : L.length = n := by have := hown.1; omega
  have HLL := hid hLl
  have HO0 := hid hown
  have HNO := hid hno
  have HB := hid hB
  clear hLl hown hno hB
  go_enter Tryd.func12, Tryd.ntmps12
  go_wp2_with fail
  refine (text_zero _).mono ?_
  rintro e w1 ⟨rfl, hb1⟩
  have hz1 := hb1.size
  have x0 : w1.cell? ⟨B, 0, none⟩ = some (.slice none 0 0) := (hb1.cell (by exact hBz)).trans c0
  have x1 : w1.cell? ⟨B, 1, none⟩ = some (.slice none 0 0) := (hb1.cell (by exact hBz)).trans c1
  have xf : w1.frozen? ⟨B, 0, none⟩ = false := (hb1.frozen (p := ⟨B, 0, none⟩) (by exact hBz)).trans f0
  have hb01 : Below base w w1 := hb1.mono hbase
  have HF1 := hid (fun x (hx : x < w.heap.size) => hb1.block x hx)
  have HO1 := hid (owns_below HO0.out hb1 (Nat.le_refl _))
  clear HO0 hb1 c0 c1 f0
  generalize hM : mark = M at *
  have HM := hid hM
  clear hM
  go_wp2_with fail
  go_loopw [5] (fun i wr => ∃ k : Nat, k ≤ n ∧ i = .int .i64 k ∧ wr.ownsRow base 9 1 (.slice ao n n) n (List.replicate k (.string M) ++ L.drop k) ∧ Below base w1 wr ∧ wr.cell? ⟨B, 0, none⟩ = some (.slice none 0 0) ∧ wr.cell? ⟨B, 1, none⟩ = some (.slice none 0 0) ∧ wr.frozen? ⟨B, 0, none⟩ = false ∧ ∀ x, x < w.heap.size → ao ≠ some ⟨x, 0, none⟩ → wr.heap[x]? = w.heap[x]?)
    (fun i _ => n - (intOf i).toNat)
  case atStart => exact ⟨0, Nat.zero_le _, rfl, HO1.out, Below.refl _ _, x0, x1, xf, fun x hx _ => HF1.out x hx⟩
  case round =>
    obtain ⟨k, hk, rfl, hown, hbel, y0, y1, yf, hfr⟩ := hrel
    have HFR := hid hfr
    clear hfr
    by_cases hlt : k < n
    · obtain ⟨g, c', e1, hgb, hgz⟩ := hown.form (by omega)
      have e2 : ao = some ⟨g, 0, none⟩ := by injection e1
      subst e2
      have hgB := HB.out g rfl
      have hs := hown.frozenAt k
      have hcell := hown.cellAt k (by omega)
      obtain ⟨u, hu⟩ : ∃ u, (List.replicate k (Value.string M) ++ L.drop k)[k]? = some u := by
        refine ⟨_, List.getElem?_eq_getElem (by rw [List.length_append, List.length_drop, HLL.out]; simp; omega)⟩
      rw [hu] at hcell
      have hst := (hown.stored k (.string M)).1
      rw [marks_set _ _ _ (by rw [HLL.out]; exact hlt)] at hst
      have HST := hid hst
      have hk1 : (k : Int) < (n : Int) := by omega
      have hk0 : (0 : Int) ≤ (k : Int) := by omega
      have hfar := Below.heap_setCell wr ⟨g, k, none⟩ (.string M) B (Ne.symm hgB)
      have Z0 := hid ((World.cell?_of_block (a := ⟨B, 0, none⟩) hfar).trans y0)
      have Z1 := hid ((World.cell?_of_block (a := ⟨B, 1, none⟩) hfar).trans y1)
      have Zf := hid ((World.frozen?_of_block (a := ⟨B, 0, none⟩) hfar).trans yf)
      clear hst hown hu e1 hfar
      go_wp2
      go_roundw
      case rel => exact ⟨k + 1, by omega, by go_num, HST.out, hbel.setCell hgb _, Z0.out, Z1.out, Zf.out, fun x hx hne => (Below.heap_setCell wr ⟨g, k, none⟩ _ x (fun e => hne (by rw [e]))).trans (HFR.out x hx hne)⟩
      case measure => simp [intOf]; omega
    · have hk1 : ¬ (k : Int) < (n : Int) := by omega
      have hkn : k = n := by omega
      rw [hkn, List.drop_of_length_le (by rw [HLL.out]; exact Nat.le_refl _), List.append_nil] at hown
      have hlt0 : ∀ ad, ao = some ad → ad.spot = none ∧ ad.off = 0 := fun ad h => by
        rcases hown.2 with ⟨h1, _⟩ | ⟨g, cap, cur, h1, _⟩
        · injection h1 with h1; rw [h1] at h; cases h
        · injection h1 with h1; rw [h1] at h; cases h; exact ⟨rfl, rfl⟩
      obtain ⟨a', c', e1, hrd⟩ := owns_any_rd hown
      obtain rfl : ao = a' := by injection e1
      have HRD := hid hrd
      clear hown e1 hrd hkn HO1
      have hz1r := hbel.size
      have hnn : ao = none → n = 0 ∧ n = 0 := fun h => ⟨HNO.out h, HNO.out h⟩
      have HNN := hid hnn
      have HL0 := hid hlt0
      have hBr : B < wr.heap.size := by omega
      clear hnn hlt0
      go_wp2_with (first
        | (at_builtin; refine wpList_append_grows _ rfl (.tmp 26) (.tmp 28) 24 rfl 9 iS (.string ByteArray.empty) 1 16 Tryd.underlying24 hiS hs0 hs1 hs2 rfl (by decide) ao n n (List.replicate n (.string M)) rfl HNN.out (by simp) (fun b hb j u hj => Rd.holds (HRD.out.below ((Below.refl _ _).alloc (Nat.le_refl _) _) (Nat.le_refl _)) b hb j u hj) ⟨wr.heap.size, 0, none⟩ 1 1 [.string M] rfl rfl (World.news_of_block (cs := #[.string M]) (t := 9) (fr := (0, 0)) (heap_alloc_new wr _)) (by simp [Value.oneCell']) (by omega) (by unfold maxLen; omega) (by omega) ?_; intro v2 w2 hown2 hgrow2; obtain ⟨g2, d2, rfl, hg2, hg2z⟩ := hown2.form (by omega); have hb2 : Below wr.heap.size wr w2 := ((Below.refl _ _).alloc (Nat.le_refl _) _).trans ((grown_below hgrow2).mono (by simp)); have hz2 := hb2.size; have R2 := hid (owns_rd hown2); clear hown2 hgrow2)
        | (at_builtin; refine wpList_append_grows _ rfl (.tmp 30) (.tmp 33) 24 rfl 9 iS (.string ByteArray.empty) 1 16 Tryd.underlying24 hiS hs0 hs1 hs2 rfl (by decide) ao n n (List.replicate n (.string M)) rfl HNN.out (by simp) (fun b hb j u hj => Rd.holds ((HRD.out.below hb2 (Nat.le_refl _)).below ((Below.refl _ _).alloc (Nat.le_refl _) _) (Nat.le_refl _)) b hb j u hj) ⟨w2.heap.size, 0, none⟩ 2 2 [.string M, .string M] rfl rfl (World.news_of_block (cs := #[.string M, .string M]) (t := 9) (fr := (0, 0)) (heap_alloc_new w2 _)) (by simp [Value.oneCell']) (by omega) (by unfold maxLen; omega) (by omega) ?_; intro v3 w3 hown3 hgrow3; obtain ⟨g3, d3, rfl, hg3, hg3z⟩ := hown3.form (by omega); have hb23 : Below w2.heap.size w2 w3 := ((Below.refl _ _).alloc (Nat.le_refl _) _).trans ((grown_below hgrow3).mono (by simp)); have hb3 : Below wr.heap.size wr w3 := hb2.trans (hb23.mono hz2); have hz3 := hb3.size; have R3 := hid (owns_rd hown3); clear hown3 hgrow3)
        | (at_builtin; refine wpList_append_grows _ rfl (.tmp 35) (.tmp 39) 24 rfl 9 iS (.string ByteArray.empty) 1 16 Tryd.underlying24 hiS hs0 hs1 hs2 rfl (by decide) ao n n (List.replicate n (.string M)) rfl HNN.out (by simp) (fun b hb j u hj => Rd.holds ((HRD.out.below hb3 (Nat.le_refl _)).below ((Below.refl _ _).alloc (Nat.le_refl _) _) (Nat.le_refl _)) b hb j u hj) ⟨w3.heap.size, 0, none⟩ 3 3 [.string M, .string M, .string M] rfl rfl (World.news_of_block (cs := #[.string M, .string M, .string M]) (t := 9) (fr := (0, 0)) (heap_alloc_new w3 _)) (by simp [Value.oneCell']) (by omega) (by unfold maxLen; omega) (by omega) ?_; intro v4 w4 hown4 hgrow4; obtain ⟨g4, d4, rfl, hg4, hg4z⟩ := hown4.form (by omega); have hb34 : Below w3.heap.size w3 w4 := ((Below.refl _ _).alloc (Nat.le_refl _) _).trans ((grown_below hgrow4).mono (by simp)); have hb4 : Below wr.heap.size wr w4 := hb3.trans (hb34.mono hz3); have hz4 := hb4.size; have R4 := hid (owns_rd hown4); have v0 : w4.cell? ⟨B, 0, none⟩ = some (.slice none 0 0) := (hb4.cell (by exact hBr)).trans y0; have v1 : w4.cell? ⟨B, 1, none⟩ = some (.slice none 0 0) := (hb4.cell (by exact hBr)).trans y1; have vf : w4.frozen? ⟨B, 0, none⟩ = false := (hb4.frozen (p := ⟨B, 0, none⟩) (by exact hBr)).trans yf; clear hown4 hgrow4)
        | (at_builtin; refine wpList_append_grows _ rfl (.tmp 45) (.tmp 50) 32 rfl 24 iT (.slice none 0 0) 1 24 Tryd.underlying32 hiT ht0 ht1 ht2 rfl (by decide) none 0 0 [] rfl (fun _ => ⟨rfl, rfl⟩) rfl (fun b hb => by cases hb) ⟨w4.heap.size, 0, none⟩ 4 4 [.slice ao n n, .slice (some ⟨g2, 0, none⟩) (n + 1) d2, .slice (some ⟨g3, 0, none⟩) (n + 2) d3, .slice (some ⟨g4, 0, none⟩) (n + 3) d4] rfl rfl (World.news_of_block (cs := #[.slice ao n n, .slice (some ⟨g2, 0, none⟩) (n + 1) d2, .slice (some ⟨g3, 0, none⟩) (n + 2) d3, .slice (some ⟨g4, 0, none⟩) (n + 3) d4]) (t := 24) (fr := (0, 0)) (heap_alloc_new w4 _)) (by simp [Value.oneCell']) (by omega) (by unfold maxLen; omega) (by omega) ?_; intro v5 w5 hown5 hgrow5; obtain ⟨g5, d5, rfl, hg5, hg5z⟩ := hown5.form (by omega); have hb45 : Below w4.heap.size w4 w5 := ((Below.refl _ _).alloc (Nat.le_refl _) _).trans ((grown_below hgrow5).mono (by simp)); have hb5 : Below wr.heap.size wr w5 := hb4.trans (hb45.mono hz4); have hz5 := hb5.size; have R5 := hid hown5; have s0 : w5.cell? ⟨B, 0, none⟩ = some (.slice none 0 0) := (hb5.cell (by exact hBr)).trans y0; have s1 : w5.cell? ⟨B, 1, none⟩ = some (.slice none 0 0) := (hb5.cell (by exact hBr)).trans y1; have sf : w5.frozen? ⟨B, 0, none⟩ = false := (hb5.frozen (p := ⟨B, 0, none⟩) (by exact hBr)).trans yf; clear hown5 hgrow5))
      refine bodyPost_end (v := .tuple #[]) ?_ rfl ⟨rfl, ?_, ?_, ?_⟩
      · simp [results, Tryd.results12, go_sem]
      · simp at hg2 hg3 hg4 hg5
        have hgB : g5 ≠ B := by omega
        have hz23 := hb23.size
        have hz34 := hb34.size
        have hz45 := hb45.size
        have hb35 : Below w3.heap.size w3 w5 := hb34.trans (hb45.mono hz34)
        have hb25 : Below w2.heap.size w2 w5 := hb23.trans (hb35.mono hz23)
        have hfar : ∀ (x o : Nat), x ≠ B → (w5.setCell ⟨B, 0, none⟩ (.slice (some ⟨g5, 0, none⟩) 4 d5)).cell? ⟨x, o, none⟩ = w5.cell? ⟨x, o, none⟩ := fun x o hx => World.cell?_of_block (a := ⟨x, o, none⟩) (Below.heap_setCell w5 ⟨B, 0, none⟩ _ x hx)
        rw [HM.out]
        refine ⟨g5, d5, fun i => match i with | 0 => ao | 1 => some ⟨g2, 0, none⟩ | 2 => some ⟨g3, 0, none⟩ | _ => some ⟨g4, 0, none⟩, fun i => match i with | 0 => n | 1 => d2 | 2 => d3 | _ => d4, World.cell?_setCell_same _ _ _ s0, ?_, by simp; omega, by simp; omega, ?_, ?_⟩
        · simp [go_sem, s1]
        · intro i hi
          rw [hfar g5 i hgB, R5.out.cellAt i (by omega)]
          have : i = 0 ∨ i = 1 ∨ i = 2 ∨ i = 3 := by omega
          rcases this with rfl | rfl | rfl | rfl <;> rfl
        · intro i hi
          have : i = 0 ∨ i = 1 ∨ i = 2 ∨ i = 3 := by omega
          rcases this with rfl | rfl | rfl | rfl
          · refine (HRD.out.below hb5 (Nat.le_refl _)).setCell_far (fun ad h => ?_) _
            obtain ⟨h1, h2⟩ := HL0.out ad h
            obtain ⟨b, o, sp⟩ := ad
            simp at h1 h2
            subst h1 h2
            exact HB.out b h
          · have h := (R2.out.below hb25 (Nat.le_refl _)).setCell_far (g := B) (k := 0) (fun ad h => by cases h; simp; omega) (.slice (some ⟨g5, 0, none⟩) 4 d5)
            rw [show List.replicate n (Value.string M) ++ [Value.string M] = List.replicate (n + 1) (Value.string M) from (List.replicate_succ').symm] at h
            exact h
          · have h := (R3.out.below hb35 (Nat.le_refl _)).setCell_far (g := B) (k := 0) (fun ad h => by cases h; simp; omega) (.slice (some ⟨g5, 0, none⟩) 4 d5)
            rw [show List.replicate n (Value.string M) ++ [Value.string M, Value.string M] = List.replicate (n + 2) (Value.string M) from List.replicate_append_replicate (n := n) (m := 2)] at h
            exact h
          · have h := (R4.out.below hb45 (Nat.le_refl _)).setCell_far (g := B) (k := 0) (fun ad h => by cases h; simp; omega) (.slice (some ⟨g5, 0, none⟩) 4 d5)
            rw [show List.replicate n (Value.string M) ++ [Value.string M, Value.string M, Value.string M] = List.replicate (n + 3) (Value.string M) from List.replicate_append_replicate (n := n) (m := 3)] at h
            exact h
      · exact ((hb01.trans hbel).trans (hb5.mono (by omega))).setCell (by simpa using hbB) _
      · intro x hx hxB hxa
        exact ((Below.heap_setCell w5 ⟨B, 0, none⟩ _ x hxB).trans (hb5.block x (by omega))).trans (HFR.out x hx hxa)

set_option maxRecDepth 100000 in
set_option maxHeartbeats 1000000 in
theorem reads_any (B n : Nat) (w : World) (hn : n ≤ 8) (h : Kept mark w B n) :
    Calls Tryd.prog 13 #[.pointer (some ⟨B, 0, none⟩)] w fun e w' => e = .returned (.bool true) ∧ Below w.heap.size w w' := by
  obtain ⟨tg, c4, A, C, h1, h2, h3, h4, h5, h6⟩ := h
  have HTX := hid text_zero
  generalize mark = M at *
  have HT := hid h5
  have HR := hid h6
  clear h5 h6
  go_enter Tryd.func13, Tryd.ntmps13
  go_wp2_with fail
  go_loopw [3, 4] (fun b i wr => ∃ k : Nat, k ≤ 4 ∧ b = .bool true ∧ i = .int .i64 k ∧ Below w.heap.size w wr)
    (fun _ i _ => 4 - (intOf i).toNat)
  case atStart => exact ⟨0, Nat.zero_le _, rfl, rfl, Below.refl _ _⟩
  case round =>
    obtain ⟨k, hk, rfl, rfl, hbel⟩ := hrel
    have c0 : wr.cell? ⟨B, 0, none⟩ = some (.slice (some ⟨tg, 0, none⟩) 4 c4) := (hbel.cell (by exact h3)).trans h1
    have c1 : wr.cell? ⟨B, 1, none⟩ = some (.slice none 0 0) := (hbel.cell (by exact h3)).trans h2
    by_cases hlt : k < 4
    · have hk1 : (k : Int) < 4 := by omega
      have hk0 : (0 : Int) ≤ (k : Int) := by omega
      have hk4 : (k : Int) / 4 = 0 := by omega
      have ct := HT.out k hlt
      have HRK := hid (HR.out k hlt)
      generalize A k = a at *
      generalize C k = c at *
      obtain ⟨m, hm⟩ : ∃ m, m = n + k := ⟨_, rfl⟩
      rw [← hm] at ct HRK
      have hm12 : m ≤ 12 := by omega
      clear hm
      go_wp2_with fail
      go_loopw [3, 5] (fun b i wr => ∃ j : Nat, j ≤ m ∧ b = .bool true ∧ i = .int .i64 j ∧ Below w.heap.size w wr)
        (fun _ i _ => m - (intOf i).toNat)
      case atStart => exact ⟨0, Nat.zero_le _, rfl, rfl, hbel⟩
      case round =>
        clear c0 c1 hbel
        obtain ⟨j, hj, rfl, rfl, hbel⟩ := hrel
        have c0 : wr.cell? ⟨B, 0, none⟩ = some (.slice (some ⟨tg, 0, none⟩) 4 c4) := (hbel.cell (by exact h3)).trans h1
        have cT : wr.cell? ⟨tg, k, none⟩ = some (.slice a m c) := (hbel.cell (by exact h4)).trans ct
        by_cases hjm : j < m
        · obtain ⟨ba, oa, rfl, hba, hce⟩ := HRK.out j (.string M) (by simp [hjm])
          have cE : wr.cell? ⟨ba, oa + j, none⟩ = some (.string M) := (hbel.cell (by exact hba)).trans hce
          have hj1 : (j : Int) < (m : Int) := by omega
          have hj0 : (0 : Int) ≤ (j : Int) := by omega
          have hzr := hbel.size
          go_wp2_with fail
          go_region_held3 (fun w' => w'.cell? ⟨B, 0, none⟩ = some (.slice (some ⟨tg, 0, none⟩) 4 c4) ∧ w'.cell? ⟨tg, k, none⟩ = some (.slice (some ⟨ba, oa, none⟩) m c) ∧ w'.cell? ⟨ba, oa + j, none⟩ = some (.string M)) (first | exact ⟨q0, q1, q2⟩ | exact ⟨c0, cT, cE⟩ | go_keep)
            ((go_at_call 35; refine (HTX.out _).mono ?_; rintro e w6 ⟨rfl, hb6⟩; have hbr6 : Below wr.heap.size wr w6 := ((Below.refl _ _).drew).trans hb6; have q0 : w6.cell? ⟨B, 0, none⟩ = some (.slice (some ⟨tg, 0, none⟩) 4 c4) := (hbr6.cell (by show B < wr.heap.size; omega)).trans c0; have q1 : w6.cell? ⟨tg, k, none⟩ = some (.slice (some ⟨ba, oa, none⟩) m c) := (hbr6.cell (by show tg < wr.heap.size; omega)).trans cT; have q2 : w6.cell? ⟨ba, oa + j, none⟩ = some (.string M) := (hbr6.cell (by show ba < wr.heap.size; omega)).trans cE))
          have hb7 : Below w.heap.size w w6 := hbel.trans (hbr6.mono hzr)
          go_wp2
          go_roundw
          case rel => exact ⟨j + 1, by omega, rfl, by go_num, hb7⟩
          case measure => simp [intOf]; omega
        · have hj1 : ¬ (j : Int) < (m : Int) := by omega
          go_wp2
          go_roundw
          case rel => exact ⟨k + 1, by omega, rfl, by go_num, hbel⟩
          case measure => simp [intOf]; omega
    · have hk1 : ¬ (k : Int) < 4 := by omega
      go_wp2_with fail
      refine wp_loop_rounds 1 ?_
      rw [rounds_succ]
      go_wp2
      go_ret
      exact ⟨rfl, hbel⟩
end Go.Proofs.YtcegdgmbponapaaDoor
