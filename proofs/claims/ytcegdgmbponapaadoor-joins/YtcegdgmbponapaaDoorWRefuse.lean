/-
  Where Split refuses: the plan, the size, the tape.
-/
import Derived.Test.YtcegdgmbponapaaDoorWFail
import Derived.Test.YtcegdgmbponapaaDoorWSplit
import Derived.BigQuiet
namespace Go.Proofs.YtcegdgmbponapaaDoor
open Go.RowKit
attribute [local go_sem ↓] Go.wp_at_zero Go.wp_at_succ

theorem Chain.setCell {w : World} {k : Int} {d : Nat} {e : Value} (h : Chain w k d e) (g o : Nat) (u : Value) (hne : ∀ t v, w.cell? ⟨g, 1, none⟩ ≠ some (.iface t v)) : Chain (w.setCell ⟨g, o, none⟩ u) k d e := by
  induction h with
  | hit => exact .hit
  | place d b e h hc hb ih =>
    obtain ⟨t, v, rfl⟩ := h.shape
    have hbg : b ≠ g := fun e => hne t v (by rw [← e]; exact hc)
    exact .place d b _ ih (by rw [World.cell?_of_block (Below.heap_setCell w ⟨g, o, none⟩ u b hbg)]; exact hc) (by simpa using hb)

def noLay : Value := .agg #[.slice none 0 0, .slice none 0 0, .int .i64 0]

theorem Chain.setLay {w : World} {k : Int} {d : Nat} {e : Value} (h : Chain w k d e) (g : Nat) (h1 : w.cell? ⟨g, 1, none⟩ = some (.slice none 0 0)) :
    Chain (((w.setCell ⟨g, 0, none⟩ (.slice none 0 0)).setCell ⟨g, 1, none⟩ (.slice none 0 0)).setCell ⟨g, 2, none⟩ (.int .i64 0)) k d e := by
  have e1 : (w.setCell ⟨g, 0, none⟩ (.slice none 0 0)).cell? ⟨g, 1, none⟩ = some (.slice none 0 0) := by
    simp [go_sem, h1]
  have e2 : ((w.setCell ⟨g, 0, none⟩ (.slice none 0 0)).setCell ⟨g, 1, none⟩ (.slice none 0 0)).cell? ⟨g, 1, none⟩ = some (.slice none 0 0) := World.cell?_setCell_same _ _ _ e1
  refine ((h.setCell g 0 _ ?_).setCell g 1 _ ?_).setCell g 2 _ ?_
  · intro t v; rw [h1]; simp
  · intro t v; rw [e1]; simp
  · intro t v; rw [e2]; simp

set_option maxRecDepth 100000 in
set_option maxHeartbeats 1000000 in
theorem layoutFor_noplan (m t l n size : Int) (w : World) (hm : I64 m) (ht : I64 t) (hl : I64 l) (hn : I64 n) (h : ¬ (1 ≤ n ∧ n ≤ 8 ∧ Fits m t l n)) (hT : Tab w) :
    Calls Tryd.prog 44 #[.agg #[.int .i64 m, .int .i64 t, .int .i64 l], .int .i64 n, .int .i64 size] w fun e w' =>
      ∃ ev, e = .returned (.tuple #[noLay, ev]) ∧ Chain w' 3 1 ev ∧ Below w.heap.size w w' := by
  have hba := ((Below.refl w.heap.size w).alloc (Nat.le_refl _) (.cells #[.int .i64 m, .int .i64 t, .int .i64 l] 23)).alloc (by simp) (.cells #[.slice none 0 0, .slice none 0 0, .int .i64 0] 88)
  have HH := hid (checkPlan_bad m t l n _ hm ht hl hn h (hT.keeps hba (Nat.le_refl _)))
  clear h hT hm ht hl hn
  go_enter Tryd.func44, Tryd.ntmps44
  go_wp2_with fail
  refine HH.out.mono ?_
  rintro e w1 ⟨ev, rfl, hch, hb1⟩
  obtain ⟨te, ve, rfl⟩ := hch.shape
  obtain ⟨hc1, hf1⟩ := bcell hb1
  have HC := hid hch
  have hz1 : w.heap.size + 1 < w1.heap.size := by have := hb1.size; simp at this; omega
  have c0 : w1.cell? ⟨w.heap.size + 1, 0, none⟩ = some (.slice none 0 0) := (hc1 _ _ (by simp)).trans (by simp)
  have c1 : w1.cell? ⟨w.heap.size + 1, 1, none⟩ = some (.slice none 0 0) := (hc1 _ _ (by simp)).trans (by simp)
  have c2 : w1.cell? ⟨w.heap.size + 1, 2, none⟩ = some (.int .i64 0) := (hc1 _ _ (by simp)).trans (by simp)
  clear hch
  go_wp2_with fail
  refine bodyPost_ret (v := .tuple #[noLay, .iface te ve]) ?_ rfl ⟨_, rfl, HC.out.setLay _ c1, ?_⟩
  · simp [results, Tryd.results44, go_sem, hc1, noLay]
  · exact ((hba.trans (hb1.mono (by simp; omega))).setCell (by simp) _ |>.setCell (by simp) _).setCell (by simp) _

set_option maxRecDepth 100000 in
set_option maxHeartbeats 1000000 in
theorem layoutFor_big (mode t l n : Nat) (size : Int) (w : World) (h : IsPlan mode t l n) (hs : I64 size) (hbig : size < 0 ∨ 60 < size) (hT : Tab w) :
    Calls Tryd.prog 44 #[.agg #[.int .i64 mode, .int .i64 t, .int .i64 l], .int .i64 n, .int .i64 size] w fun e w' =>
      ∃ ev, e = .returned (.tuple #[noLay, ev]) ∧ Chain w' 4 1 ev ∧ Below w.heap.size w w' := by
  have hba := ((Below.refl w.heap.size w).alloc (Nat.le_refl _) (.cells #[.int .i64 mode, .int .i64 t, .int .i64 l] 23)).alloc (by simp) (.cells #[.slice none 0 0, .slice none 0 0, .int .i64 0] 88)
  have HT := hid (hT.keeps hba (Nat.le_refl _))
  have HS := hid hs
  have HP := hid h
  clear hT h
  rcases hbig with hbig | hbig
  · go_enter Tryd.func44, Tryd.ntmps44
    go_wp2_with fail
    refine (checkPlan_ok mode t l n _ HP.out).mono ?_
    rintro e w1 ⟨rfl, hb1⟩
    have HT1 := hid (HT.out.keeps hb1 (Nat.le_refl _))
    go_wp2_with (go_at_call 61; refine (atCount_any size _ _ 4 0 _ HS.out (by decide) HT1.out .hit).mono ?_; rintro e w3 ⟨ev, rfl, hch, hb3⟩; obtain ⟨hc3, hf3⟩ := bcell (hb1.trans (hb3.mono hb1.size)); have hz3 : w.heap.size + 1 < w3.heap.size := (by have := hb1.size; have := hb3.size; simp at *; omega); have c0 : w3.cell? ⟨w.heap.size + 1, 0, none⟩ = some (.slice none 0 0) := (hc3 _ _ (by simp)).trans (by simp); have c1 : w3.cell? ⟨w.heap.size + 1, 1, none⟩ = some (.slice none 0 0) := (hc3 _ _ (by simp)).trans (by simp); have HC := hid hch; clear hch)
    refine bodyPost_ret (v := .tuple #[noLay, ev]) ?_ rfl ⟨_, rfl, HC.out.setLay _ c1, ?_⟩
    · simp [results, Tryd.results44, go_sem, hc3, noLay]
    · exact (((hba.trans (hb1.mono (by simp; omega))).trans (hb3.mono (by have := hb1.size; simp at this; omega))).setCell (by simp) _ |>.setCell (by simp) _).setCell (by simp) _
  · have h0 : ¬ size < 0 := by omega
    go_enter Tryd.func44, Tryd.ntmps44
    go_wp2_with fail
    refine (checkPlan_ok mode t l n _ HP.out).mono ?_
    rintro e w1 ⟨rfl, hb1⟩
    have HT1 := hid (HT.out.keeps hb1 (Nat.le_refl _))
    go_wp2_with (go_at_call 61; refine (atCount_any size _ _ 4 0 _ HS.out (by decide) HT1.out .hit).mono ?_; rintro e w3 ⟨ev, rfl, hch, hb3⟩; obtain ⟨hc3, hf3⟩ := bcell (hb1.trans (hb3.mono hb1.size)); have hz3 : w.heap.size + 1 < w3.heap.size := (by have := hb1.size; have := hb3.size; simp at *; omega); have c0 : w3.cell? ⟨w.heap.size + 1, 0, none⟩ = some (.slice none 0 0) := (hc3 _ _ (by simp)).trans (by simp); have c1 : w3.cell? ⟨w.heap.size + 1, 1, none⟩ = some (.slice none 0 0) := (hc3 _ _ (by simp)).trans (by simp); have HC := hid hch; clear hch)
    refine bodyPost_ret (v := .tuple #[noLay, ev]) ?_ rfl ⟨_, rfl, HC.out.setLay _ c1, ?_⟩
    · simp [results, Tryd.results44, go_sem, hc3, noLay]
    · exact (((hba.trans (hb1.mono (by simp; omega))).trans (hb3.mono (by have := hb1.size; simp at this; omega))).setCell (by simp) _ |>.setCell (by simp) _).setCell (by simp) _
end Go.Proofs.YtcegdgmbponapaaDoor
