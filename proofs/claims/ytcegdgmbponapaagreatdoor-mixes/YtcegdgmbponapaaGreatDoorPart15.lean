/-
  The pen; what a call does to a store, as a list of functions.
  What becomes of a list of records.
-/
import Derived.Test.YtcegdgmbponapaaGreatDoorPart14
namespace Go.Proofs.YtcegdgmbponapaaGreatDoor
open Go.RowKit
attribute [local go_sem ↓] Go.wp_at_zero Go.wp_at_succ

set_option maxRecDepth 100000 in
theorem check_fine (V : Nat) (w : World) (h : w.cell? ⟨V, 5, none⟩ = some (.bool false)) :
    Calls Tryz.prog 88 #[.pointer (some ⟨V, 2, none⟩)] w fun e w' => e = .returned .nilIface ∧ w' = w := by
  go_enter Tryz.func88, Tryz.ntmps88
  go_wp2
  go_ret
  exact ⟨rfl, rfl⟩

set_option maxRecDepth 100000 in
theorem check_crashed (V : Nat) (w : World) (h : w.cell? ⟨V, 5, none⟩ = some (.bool true)) :
    Calls Tryz.prog 88 #[.pointer (some ⟨V, 2, none⟩)] w fun e w' => e = .returned (.iface 136 (.int .i64 1)) ∧ w' = w := by
  go_enter Tryz.func88, Tryz.ntmps88
  go_wp2
  go_ret
  exact ⟨rfl, rfl⟩

/-- A vault behind one write that was done. -/
def nextOf (w : World) (V : Nat) (done ahead : Int) : World := (w.setCell ⟨V, 4, none⟩ (.int .i64 (wrap64 (ahead - 1)))).setCell ⟨V, 2, none⟩ (.int .i64 (wrap64 (done + 1)))

set_option maxRecDepth 100000 in
theorem next_free (V : Nat) (v0 v1 : Value) (done ahead : Int) (crashed : Bool) (w : World) (h : w.heap[V]? = some (.cells #[v0, v1, .int .i64 done, .bool false, .int .i64 ahead, .bool crashed] 161)) :
    Calls Tryz.prog 135 #[.pointer (some ⟨V, 2, none⟩)] w fun e w' => e = .returned .nilIface ∧ w' = nextOf w V done ahead := by
  have c2 : w.cell? ⟨V, 2, none⟩ = some (.int .i64 done) := by rw [cells_at h]; rfl
  have c3 : w.cell? ⟨V, 3, none⟩ = some (.bool false) := by rw [cells_at h]; rfl
  have c4 : w.cell? ⟨V, 4, none⟩ = some (.int .i64 ahead) := by rw [cells_at h]; rfl
  have f2 : w.frozen? ⟨V, 2, none⟩ = false := cells_fz h
  have f4 : w.frozen? ⟨V, 4, none⟩ = false := cells_fz h
  go_enter Tryz.func135, Tryz.ntmps135
  go_wp2
  go_ret
  exact ⟨rfl, rfl⟩

theorem nextOf_heap {w : World} {V : Nat} {v0 v1 : Value} {done ahead : Int} {crashes crashed : Bool} (h : w.heap[V]? = some (.cells #[v0, v1, .int .i64 done, .bool crashes, .int .i64 ahead, .bool crashed] 161)) :
    (nextOf w V done ahead).heap[V]? = some (.cells #[v0, v1, .int .i64 (wrap64 (done + 1)), .bool crashes, .int .i64 (wrap64 (ahead - 1)), .bool crashed] 161) := by
  unfold nextOf
  rw [cells_set _ (cells_set _ h)]
  rfl

theorem nextOf_spared (w : World) (V : Nat) (done ahead : Int) : Spared (fun b => b = V) w (nextOf w V done ahead) :=
  ((Spared.refl (fun b => b = V) w).setCell (p := ⟨V, 4, none⟩) rfl _).setCell (p := ⟨V, 2, none⟩) rfl _

/-- What a call does to each store, as functions. -/
def stepFns : Nat → List Nat
  | 0 => [155]
  | 1 => [182]
  | 2 => [183, 184]
  | 3 => [184]
  | 4 => [185]
  | _ => []
def fnV (f : Nat) : Value := .func (.func f) #[] #[]

/-- A list of functions lies in memory. -/
def Fns (w : World) (g : Nat) (fs : List Nat) : Prop := g < w.heap.size ∧ ∀ (i f : Nat), fs[i]? = some f → w.cell? ⟨g, i, none⟩ = some (fnV f)

theorem Fns.keeps {own : Nat → Prop} {w w' : World} {g : Nat} {fs : List Nat} (h : Fns w g fs) (hs : Spared own w w') (ho : ¬ own g) : Fns w' g fs :=
  ⟨Nat.lt_of_lt_of_le h.1 hs.size, fun i f hi => by rw [World.cell?_of_block (hs.block g h.1 ho)]; exact h.2 i f hi⟩

set_option maxRecDepth 100000 in
set_option maxHeartbeats 1000000 in
theorem steps_at0 (w : World) : Calls Tryz.prog 134 #[.int .i64 0] w fun e w' => ∃ g, e = .returned (.slice (some ⟨g, 0, none⟩) 1 1) ∧ w.heap.size ≤ g ∧ Fns w' g (stepFns 0) ∧ Below w.heap.size w w' := by
  go_enter Tryz.func134, Tryz.ntmps134
  go_wp2
  go_ret
  refine ⟨w.heap.size, rfl, by omega, ⟨by simp <;> omega, fun i f hi => ?_⟩, ?_⟩
  · first
      | (cases i with
        | zero => simp [stepFns] at hi <;> (subst hi; unfold fnV; (iterate 6 (rw [World.cell?_alloc_lt _ _ _ (by simp <;> omega)])); rw [World.cell?_alloc_at _ _ _ _ (by simp)]; rfl)
        | succ i => cases i with
          | zero => simp [stepFns] at hi <;> (subst hi; unfold fnV; (iterate 6 (rw [World.cell?_alloc_lt _ _ _ (by simp <;> omega)])); rw [World.cell?_alloc_at _ _ _ _ (by simp)]; rfl)
          | succ i => simp [stepFns] at hi)
  · exact ((((((((Below.refl _ _).alloc (Nat.le_refl _) _).alloc (by simp) _).alloc (by simp <;> omega) _).alloc (by simp <;> omega) _).alloc (by simp <;> omega) _).alloc (by simp <;> omega) _).alloc (by simp <;> omega) _)
set_option maxRecDepth 100000 in
set_option maxHeartbeats 1000000 in
theorem steps_at1 (w : World) : Calls Tryz.prog 134 #[.int .i64 1] w fun e w' => ∃ g, e = .returned (.slice (some ⟨g, 0, none⟩) 1 1) ∧ w.heap.size ≤ g ∧ Fns w' g (stepFns 1) ∧ Below w.heap.size w w' := by
  go_enter Tryz.func134, Tryz.ntmps134
  go_wp2
  go_ret
  refine ⟨(w.heap.size + 1), rfl, by omega, ⟨by simp <;> omega, fun i f hi => ?_⟩, ?_⟩
  · first
      | (cases i with
        | zero => simp [stepFns] at hi <;> (subst hi; unfold fnV; (iterate 5 (rw [World.cell?_alloc_lt _ _ _ (by simp <;> omega)])); rw [World.cell?_alloc_at _ _ _ _ (by simp)]; rfl)
        | succ i => cases i with
          | zero => simp [stepFns] at hi <;> (subst hi; unfold fnV; (iterate 5 (rw [World.cell?_alloc_lt _ _ _ (by simp <;> omega)])); rw [World.cell?_alloc_at _ _ _ _ (by simp)]; rfl)
          | succ i => simp [stepFns] at hi)
  · exact ((((((((Below.refl _ _).alloc (Nat.le_refl _) _).alloc (by simp) _).alloc (by simp <;> omega) _).alloc (by simp <;> omega) _).alloc (by simp <;> omega) _).alloc (by simp <;> omega) _).alloc (by simp <;> omega) _)
set_option maxRecDepth 100000 in
set_option maxHeartbeats 1000000 in
theorem steps_at2 (w : World) : Calls Tryz.prog 134 #[.int .i64 2] w fun e w' => ∃ g, e = .returned (.slice (some ⟨g, 0, none⟩) 2 2) ∧ w.heap.size ≤ g ∧ Fns w' g (stepFns 2) ∧ Below w.heap.size w w' := by
  go_enter Tryz.func134, Tryz.ntmps134
  go_wp2
  go_ret
  refine ⟨(w.heap.size + 1 + 1), rfl, by omega, ⟨by simp <;> omega, fun i f hi => ?_⟩, ?_⟩
  · first
      | (cases i with
        | zero => simp [stepFns] at hi <;> (subst hi; unfold fnV; (iterate 4 (rw [World.cell?_alloc_lt _ _ _ (by simp <;> omega)])); rw [World.cell?_alloc_at _ _ _ _ (by simp)]; rfl)
        | succ i => cases i with
          | zero => simp [stepFns] at hi <;> (subst hi; unfold fnV; (iterate 4 (rw [World.cell?_alloc_lt _ _ _ (by simp <;> omega)])); rw [World.cell?_alloc_at _ _ _ _ (by simp)]; rfl)
          | succ i => simp [stepFns] at hi)
  · exact ((((((((Below.refl _ _).alloc (Nat.le_refl _) _).alloc (by simp) _).alloc (by simp <;> omega) _).alloc (by simp <;> omega) _).alloc (by simp <;> omega) _).alloc (by simp <;> omega) _).alloc (by simp <;> omega) _)
set_option maxRecDepth 100000 in
set_option maxHeartbeats 1000000 in
theorem steps_at3 (w : World) : Calls Tryz.prog 134 #[.int .i64 3] w fun e w' => ∃ g, e = .returned (.slice (some ⟨g, 0, none⟩) 1 1) ∧ w.heap.size ≤ g ∧ Fns w' g (stepFns 3) ∧ Below w.heap.size w w' := by
  go_enter Tryz.func134, Tryz.ntmps134
  go_wp2
  go_ret
  refine ⟨(w.heap.size + 1 + 1 + 1), rfl, by omega, ⟨by simp <;> omega, fun i f hi => ?_⟩, ?_⟩
  · first
      | (cases i with
        | zero => simp [stepFns] at hi <;> (subst hi; unfold fnV; (iterate 3 (rw [World.cell?_alloc_lt _ _ _ (by simp <;> omega)])); rw [World.cell?_alloc_at _ _ _ _ (by simp)]; rfl)
        | succ i => cases i with
          | zero => simp [stepFns] at hi <;> (subst hi; unfold fnV; (iterate 3 (rw [World.cell?_alloc_lt _ _ _ (by simp <;> omega)])); rw [World.cell?_alloc_at _ _ _ _ (by simp)]; rfl)
          | succ i => simp [stepFns] at hi)
  · exact ((((((((Below.refl _ _).alloc (Nat.le_refl _) _).alloc (by simp) _).alloc (by simp <;> omega) _).alloc (by simp <;> omega) _).alloc (by simp <;> omega) _).alloc (by simp <;> omega) _).alloc (by simp <;> omega) _)
set_option maxRecDepth 100000 in
set_option maxHeartbeats 1000000 in
theorem steps_at4 (w : World) : Calls Tryz.prog 134 #[.int .i64 4] w fun e w' => ∃ g, e = .returned (.slice (some ⟨g, 0, none⟩) 1 1) ∧ w.heap.size ≤ g ∧ Fns w' g (stepFns 4) ∧ Below w.heap.size w w' := by
  go_enter Tryz.func134, Tryz.ntmps134
  go_wp2
  go_ret
  refine ⟨(w.heap.size + 1 + 1 + 1 + 1), rfl, by omega, ⟨by simp <;> omega, fun i f hi => ?_⟩, ?_⟩
  · first
      | (cases i with
        | zero => simp [stepFns] at hi <;> (subst hi; unfold fnV; (iterate 2 (rw [World.cell?_alloc_lt _ _ _ (by simp <;> omega)])); rw [World.cell?_alloc_at _ _ _ _ (by simp)]; rfl)
        | succ i => cases i with
          | zero => simp [stepFns] at hi <;> (subst hi; unfold fnV; (iterate 2 (rw [World.cell?_alloc_lt _ _ _ (by simp <;> omega)])); rw [World.cell?_alloc_at _ _ _ _ (by simp)]; rfl)
          | succ i => simp [stepFns] at hi)
  · exact ((((((((Below.refl _ _).alloc (Nat.le_refl _) _).alloc (by simp) _).alloc (by simp <;> omega) _).alloc (by simp <;> omega) _).alloc (by simp <;> omega) _).alloc (by simp <;> omega) _).alloc (by simp <;> omega) _)
set_option maxRecDepth 100000 in
set_option maxHeartbeats 1000000 in
theorem steps_at5 (w : World) : Calls Tryz.prog 134 #[.int .i64 5] w fun e w' => ∃ g, e = .returned (.slice (some ⟨g, 0, none⟩) 0 0) ∧ w.heap.size ≤ g ∧ Fns w' g (stepFns 5) ∧ Below w.heap.size w w' := by
  go_enter Tryz.func134, Tryz.ntmps134
  go_wp2
  go_ret
  refine ⟨(w.heap.size + 1 + 1 + 1 + 1 + 1), rfl, by omega, ⟨by simp <;> omega, fun i f hi => ?_⟩, ?_⟩
  · first
      | (cases i with
        | zero => simp [stepFns] at hi <;> (subst hi; unfold fnV; (iterate 1 (rw [World.cell?_alloc_lt _ _ _ (by simp <;> omega)])); rw [World.cell?_alloc_at _ _ _ _ (by simp)]; rfl)
        | succ i => cases i with
          | zero => simp [stepFns] at hi <;> (subst hi; unfold fnV; (iterate 1 (rw [World.cell?_alloc_lt _ _ _ (by simp <;> omega)])); rw [World.cell?_alloc_at _ _ _ _ (by simp)]; rfl)
          | succ i => simp [stepFns] at hi)
  · exact ((((((((Below.refl _ _).alloc (Nat.le_refl _) _).alloc (by simp) _).alloc (by simp <;> omega) _).alloc (by simp <;> omega) _).alloc (by simp <;> omega) _).alloc (by simp <;> omega) _).alloc (by simp <;> omega) _)
end Go.Proofs.YtcegdgmbponapaaGreatDoor

namespace Go.Proofs.YtcegdgmbponapaaGreatDoor
open Go.RowKit

theorem recs_set_at (rs : List RecV) (p j : Nat) (u : Value) (r' : RecV) (hp : p < rs.length) (hj : j < 8) (hr : r'.cells = (rs[p]!).cells.set j u) : (recs rs).set (p * 8 + j) u = recs (rs.set p r') := by
  induction rs generalizing p with
  | nil => simp at hp
  | cons r rs ih =>
    cases p with
    | zero =>
      simp only [recs, List.flatMap_cons, List.set_cons_zero, Nat.zero_mul, Nat.zero_add] at hr ⊢
      rw [List.set_append_left _ _ (by simp [RecV.cells]; exact hj)]
      rw [hr]
      rfl
    | succ p =>
      have := ih p (by simpa using hp) (by simpa using hr)
      simp only [recs, List.flatMap_cons, List.set_cons_succ] at this ⊢
      rw [List.set_append_right _ _ (by simp [RecV.cells]; omega), show (p + 1) * 8 + j - r.cells.length = p * 8 + j by simp [RecV.cells]; omega, this]

theorem set_name (rs : List RecV) (p : Nat) (r' : RecV) (hp : p < rs.length) (hn : r'.name = (rs[p]!).name) (i : Nat) (hi : i < rs.length) : ((rs.set p r')[i]!).name = (rs[i]!).name := by
  rw [getElem!_pos (rs.set p r') i (by simpa using hi), getElem!_pos rs i hi, List.getElem_set]
  split
  · rename_i h; subst h; rw [hn, getElem!_pos rs p hp]
  · rfl

theorem Sorted.set {rs : List RecV} (h : Sorted rs) (p : Nat) (r' : RecV) (hp : p < rs.length) (hn : r'.name = (rs[p]!).name) : Sorted (rs.set p r') := by
  intro i j hij hj
  rw [List.length_set] at hj
  rw [set_name rs p r' hp hn i (by omega), set_name rs p r' hp hn j hj]
  exact h i j hij hj

theorem posOf_set (rs : List RecV) (p : Nat) (r' : RecV) (nm : ByteArray) (hp : p < rs.length) (hn : r'.name = (rs[p]!).name) : posOf (rs.set p r') nm = posOf rs nm := by
  unfold posOf
  have e : ∀ l : List RecV, l.countP (fun r => decide (cmpB r.name nm < 0)) = (l.map RecV.name).countP (fun x => decide (cmpB x nm < 0)) := fun l => by rw [List.countP_map]; rfl
  rw [e, e]
  congr 1
  rw [List.map_set, hn, getElem!_pos rs p hp]
  apply List.ext_getElem
  · simp
  · intro i h1 h2
    rw [List.getElem_set]
    split
    · rename_i h; subst h; simp
    · rfl

theorem hasName_set (rs : List RecV) (p : Nat) (r' : RecV) (nm : ByteArray) (hp : p < rs.length) (hn : r'.name = (rs[p]!).name) : hasName (rs.set p r') nm = hasName rs nm := by
  unfold hasName
  rw [posOf_set rs p r' nm hp hn, List.length_set]
  by_cases h : posOf rs nm < rs.length
  · rw [set_name rs p r' hp hn _ h]
  · rw [decide_eq_false h]; simp

theorem has_lt {rs : List RecV} {nm : ByteArray} (h : hasName rs nm = true) : posOf rs nm < rs.length := by unfold hasName at h; simp at h; exact h.1
theorem has_name {rs : List RecV} {nm : ByteArray} (h : hasName rs nm = true) : (rs[posOf rs nm]!).name = nm := by
  unfold hasName at h
  rw [Bool.and_eq_true] at h
  exact cmpB_zero.1 (of_decide_eq_true h.2)

/-- A record with another shard laid beside. -/
def RecV.laid (r x : RecV) : RecV := { r with na := x.sa, nn := x.sn, nc := x.sc }
/-- A record whose next shard has taken the place. -/
def RecV.turned (r : RecV) : RecV := { r with epoch := r.epoch + 1, sa := r.na, sn := r.nn, sc := r.nc, na := none, nn := 0, nc := 0 }
end Go.Proofs.YtcegdgmbponapaaGreatDoor
