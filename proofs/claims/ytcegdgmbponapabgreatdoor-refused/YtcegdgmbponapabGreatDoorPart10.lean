/-
  The pen; what a call does to a store, as a list of functions.
  What becomes of a list of records.
  What is done to a store: Lay.
-/
import Derived.Test.YtcegdgmbponapabGreatDoorPart09
namespace Go.Proofs.YtcegdgmbponapabGreatDoor
open Go.RowKit
attribute [local go_sem ↓] Go.wp_at_zero Go.wp_at_succ

set_option maxRecDepth 100000 in
theorem check_fine (V : Nat) (w : World) (h : w.cell? ⟨V, 5, none⟩ = some (.bool false)) :
    Calls Tryz.prog 70 #[.pointer (some ⟨V, 2, none⟩)] w fun e w' => e = .returned .nilIface ∧ w' = w := by
  go_enter Tryz.func70, Tryz.ntmps70
  go_wp2
  go_ret
  exact ⟨rfl, rfl⟩

set_option maxRecDepth 100000 in
theorem check_crashed (V : Nat) (w : World) (h : w.cell? ⟨V, 5, none⟩ = some (.bool true)) :
    Calls Tryz.prog 70 #[.pointer (some ⟨V, 2, none⟩)] w fun e w' => e = .returned (.iface 109 (.int .i64 1)) ∧ w' = w := by
  go_enter Tryz.func70, Tryz.ntmps70
  go_wp2
  go_ret
  exact ⟨rfl, rfl⟩

/-- A vault behind one write that was done. -/
def nextOf (w : World) (V : Nat) (done ahead : Int) : World := (w.setCell ⟨V, 4, none⟩ (.int .i64 (wrap64 (ahead - 1)))).setCell ⟨V, 2, none⟩ (.int .i64 (wrap64 (done + 1)))

set_option maxRecDepth 100000 in
theorem next_free (V : Nat) (v0 v1 : Value) (done ahead : Int) (crashed : Bool) (w : World) (h : w.heap[V]? = some (.cells #[v0, v1, .int .i64 done, .bool false, .int .i64 ahead, .bool crashed] 96)) :
    Calls Tryz.prog 90 #[.pointer (some ⟨V, 2, none⟩)] w fun e w' => e = .returned .nilIface ∧ w' = nextOf w V done ahead := by
  have c2 : w.cell? ⟨V, 2, none⟩ = some (.int .i64 done) := by rw [cells_at h]; rfl
  have c3 : w.cell? ⟨V, 3, none⟩ = some (.bool false) := by rw [cells_at h]; rfl
  have c4 : w.cell? ⟨V, 4, none⟩ = some (.int .i64 ahead) := by rw [cells_at h]; rfl
  have f2 : w.frozen? ⟨V, 2, none⟩ = false := cells_fz h
  have f4 : w.frozen? ⟨V, 4, none⟩ = false := cells_fz h
  go_enter Tryz.func90, Tryz.ntmps90
  go_wp2
  go_ret
  exact ⟨rfl, rfl⟩

theorem nextOf_heap {w : World} {V : Nat} {v0 v1 : Value} {done ahead : Int} {crashes crashed : Bool} (h : w.heap[V]? = some (.cells #[v0, v1, .int .i64 done, .bool crashes, .int .i64 ahead, .bool crashed] 96)) :
    (nextOf w V done ahead).heap[V]? = some (.cells #[v0, v1, .int .i64 (wrap64 (done + 1)), .bool crashes, .int .i64 (wrap64 (ahead - 1)), .bool crashed] 96) := by
  unfold nextOf
  rw [cells_set _ (cells_set _ h)]
  rfl

theorem nextOf_spared (w : World) (V : Nat) (done ahead : Int) : Spared (fun b => b = V) w (nextOf w V done ahead) :=
  ((Spared.refl (fun b => b = V) w).setCell (p := ⟨V, 4, none⟩) rfl _).setCell (p := ⟨V, 2, none⟩) rfl _

/-- What a call does to each store, as functions. -/
def stepFns : Nat → List Nat
  | 0 => [80]
  | 1 => [122]
  | 2 => [123, 124]
  | 3 => [124]
  | 4 => [125]
  | _ => []
def fnV (f : Nat) : Value := .func (.func f) #[] #[]

/-- A list of functions lies in memory. -/
def Fns (w : World) (g : Nat) (fs : List Nat) : Prop := g < w.heap.size ∧ ∀ (i f : Nat), fs[i]? = some f → w.cell? ⟨g, i, none⟩ = some (fnV f)

theorem Fns.keeps {own : Nat → Prop} {w w' : World} {g : Nat} {fs : List Nat} (h : Fns w g fs) (hs : Spared own w w') (ho : ¬ own g) : Fns w' g fs :=
  ⟨Nat.lt_of_lt_of_le h.1 hs.size, fun i f hi => by rw [World.cell?_of_block (hs.block g h.1 ho)]; exact h.2 i f hi⟩

set_option maxRecDepth 100000 in
set_option maxHeartbeats 1000000 in
theorem steps_at0 (w : World) : Calls Tryz.prog 89 #[.int .i64 0] w fun e w' => ∃ g, e = .returned (.slice (some ⟨g, 0, none⟩) 1 1) ∧ w.heap.size ≤ g ∧ Fns w' g (stepFns 0) ∧ Below w.heap.size w w' := by
  go_enter Tryz.func89, Tryz.ntmps89
  go_wp2
  go_ret
  refine ⟨w.heap.size, rfl, by omega, ⟨by simp <;> omega, fun i f hi => ?_⟩, ?_⟩
  · first
      | (cases i with
        | zero => simp [stepFns] at hi <;> (subst hi; unfold fnV; (iterate 6 (rw [World.cell?_alloc_lt _ _ _ (by simp <;> omega)])); rw [World.cell?_alloc_at _ _ _ _ (by simp)]; rfl)
        | succ i => cases i with
          | zero => simp [stepFns] at hi <;> (subst hi; unfold fnV; (iterate 6 (rw [World.cell?_alloc_lt _ _ _ (by simp <;> omega)])); rw [World.cell?_alloc_at _ _ _ _ (by simp)]; rfl)
          | succ i => simp [stepFns] at hi)
  · exact ((((((((Below.refl _ _).alloc (Nat.le_refl _) _).alloc (by simp) _).alloc (by simp <;> omega) _).alloc (by simp <;> omega) _).alloc (by simp <;> omega) _).alloc (by simp <;> omega) _).alloc (by simp <;> omega) _)
set_option maxRecDepth 100000 in
set_option maxHeartbeats 1000000 in
theorem steps_at1 (w : World) : Calls Tryz.prog 89 #[.int .i64 1] w fun e w' => ∃ g, e = .returned (.slice (some ⟨g, 0, none⟩) 1 1) ∧ w.heap.size ≤ g ∧ Fns w' g (stepFns 1) ∧ Below w.heap.size w w' := by
  go_enter Tryz.func89, Tryz.ntmps89
  go_wp2
  go_ret
  refine ⟨(w.heap.size + 1), rfl, by omega, ⟨by simp <;> omega, fun i f hi => ?_⟩, ?_⟩
  · first
      | (cases i with
        | zero => simp [stepFns] at hi <;> (subst hi; unfold fnV; (iterate 5 (rw [World.cell?_alloc_lt _ _ _ (by simp <;> omega)])); rw [World.cell?_alloc_at _ _ _ _ (by simp)]; rfl)
        | succ i => cases i with
          | zero => simp [stepFns] at hi <;> (subst hi; unfold fnV; (iterate 5 (rw [World.cell?_alloc_lt _ _ _ (by simp <;> omega)])); rw [World.cell?_alloc_at _ _ _ _ (by simp)]; rfl)
          | succ i => simp [stepFns] at hi)
  · exact ((((((((Below.refl _ _).alloc (Nat.le_refl _) _).alloc (by simp) _).alloc (by simp <;> omega) _).alloc (by simp <;> omega) _).alloc (by simp <;> omega) _).alloc (by simp <;> omega) _).alloc (by simp <;> omega) _)
set_option maxRecDepth 100000 in
set_option maxHeartbeats 1000000 in
theorem steps_at2 (w : World) : Calls Tryz.prog 89 #[.int .i64 2] w fun e w' => ∃ g, e = .returned (.slice (some ⟨g, 0, none⟩) 2 2) ∧ w.heap.size ≤ g ∧ Fns w' g (stepFns 2) ∧ Below w.heap.size w w' := by
  go_enter Tryz.func89, Tryz.ntmps89
  go_wp2
  go_ret
  refine ⟨(w.heap.size + 1 + 1), rfl, by omega, ⟨by simp <;> omega, fun i f hi => ?_⟩, ?_⟩
  · first
      | (cases i with
        | zero => simp [stepFns] at hi <;> (subst hi; unfold fnV; (iterate 4 (rw [World.cell?_alloc_lt _ _ _ (by simp <;> omega)])); rw [World.cell?_alloc_at _ _ _ _ (by simp)]; rfl)
        | succ i => cases i with
          | zero => simp [stepFns] at hi <;> (subst hi; unfold fnV; (iterate 4 (rw [World.cell?_alloc_lt _ _ _ (by simp <;> omega)])); rw [World.cell?_alloc_at _ _ _ _ (by simp)]; rfl)
          | succ i => simp [stepFns] at hi)
  · exact ((((((((Below.refl _ _).alloc (Nat.le_refl _) _).alloc (by simp) _).alloc (by simp <;> omega) _).alloc (by simp <;> omega) _).alloc (by simp <;> omega) _).alloc (by simp <;> omega) _).alloc (by simp <;> omega) _)
set_option maxRecDepth 100000 in
set_option maxHeartbeats 1000000 in
theorem steps_at3 (w : World) : Calls Tryz.prog 89 #[.int .i64 3] w fun e w' => ∃ g, e = .returned (.slice (some ⟨g, 0, none⟩) 1 1) ∧ w.heap.size ≤ g ∧ Fns w' g (stepFns 3) ∧ Below w.heap.size w w' := by
  go_enter Tryz.func89, Tryz.ntmps89
  go_wp2
  go_ret
  refine ⟨(w.heap.size + 1 + 1 + 1), rfl, by omega, ⟨by simp <;> omega, fun i f hi => ?_⟩, ?_⟩
  · first
      | (cases i with
        | zero => simp [stepFns] at hi <;> (subst hi; unfold fnV; (iterate 3 (rw [World.cell?_alloc_lt _ _ _ (by simp <;> omega)])); rw [World.cell?_alloc_at _ _ _ _ (by simp)]; rfl)
        | succ i => cases i with
          | zero => simp [stepFns] at hi <;> (subst hi; unfold fnV; (iterate 3 (rw [World.cell?_alloc_lt _ _ _ (by simp <;> omega)])); rw [World.cell?_alloc_at _ _ _ _ (by simp)]; rfl)
          | succ i => simp [stepFns] at hi)
  · exact ((((((((Below.refl _ _).alloc (Nat.le_refl _) _).alloc (by simp) _).alloc (by simp <;> omega) _).alloc (by simp <;> omega) _).alloc (by simp <;> omega) _).alloc (by simp <;> omega) _).alloc (by simp <;> omega) _)
set_option maxRecDepth 100000 in
set_option maxHeartbeats 1000000 in
theorem steps_at4 (w : World) : Calls Tryz.prog 89 #[.int .i64 4] w fun e w' => ∃ g, e = .returned (.slice (some ⟨g, 0, none⟩) 1 1) ∧ w.heap.size ≤ g ∧ Fns w' g (stepFns 4) ∧ Below w.heap.size w w' := by
  go_enter Tryz.func89, Tryz.ntmps89
  go_wp2
  go_ret
  refine ⟨(w.heap.size + 1 + 1 + 1 + 1), rfl, by omega, ⟨by simp <;> omega, fun i f hi => ?_⟩, ?_⟩
  · first
      | (cases i with
        | zero => simp [stepFns] at hi <;> (subst hi; unfold fnV; (iterate 2 (rw [World.cell?_alloc_lt _ _ _ (by simp <;> omega)])); rw [World.cell?_alloc_at _ _ _ _ (by simp)]; rfl)
        | succ i => cases i with
          | zero => simp [stepFns] at hi <;> (subst hi; unfold fnV; (iterate 2 (rw [World.cell?_alloc_lt _ _ _ (by simp <;> omega)])); rw [World.cell?_alloc_at _ _ _ _ (by simp)]; rfl)
          | succ i => simp [stepFns] at hi)
  · exact ((((((((Below.refl _ _).alloc (Nat.le_refl _) _).alloc (by simp) _).alloc (by simp <;> omega) _).alloc (by simp <;> omega) _).alloc (by simp <;> omega) _).alloc (by simp <;> omega) _).alloc (by simp <;> omega) _)
set_option maxRecDepth 100000 in
set_option maxHeartbeats 1000000 in
theorem steps_at5 (w : World) : Calls Tryz.prog 89 #[.int .i64 5] w fun e w' => ∃ g, e = .returned (.slice (some ⟨g, 0, none⟩) 0 0) ∧ w.heap.size ≤ g ∧ Fns w' g (stepFns 5) ∧ Below w.heap.size w w' := by
  go_enter Tryz.func89, Tryz.ntmps89
  go_wp2
  go_ret
  refine ⟨(w.heap.size + 1 + 1 + 1 + 1 + 1), rfl, by omega, ⟨by simp <;> omega, fun i f hi => ?_⟩, ?_⟩
  · first
      | (cases i with
        | zero => simp [stepFns] at hi <;> (subst hi; unfold fnV; (iterate 1 (rw [World.cell?_alloc_lt _ _ _ (by simp <;> omega)])); rw [World.cell?_alloc_at _ _ _ _ (by simp)]; rfl)
        | succ i => cases i with
          | zero => simp [stepFns] at hi <;> (subst hi; unfold fnV; (iterate 1 (rw [World.cell?_alloc_lt _ _ _ (by simp <;> omega)])); rw [World.cell?_alloc_at _ _ _ _ (by simp)]; rfl)
          | succ i => simp [stepFns] at hi)
  · exact ((((((((Below.refl _ _).alloc (Nat.le_refl _) _).alloc (by simp) _).alloc (by simp <;> omega) _).alloc (by simp <;> omega) _).alloc (by simp <;> omega) _).alloc (by simp <;> omega) _).alloc (by simp <;> omega) _)
end Go.Proofs.YtcegdgmbponapabGreatDoor

namespace Go.Proofs.YtcegdgmbponapabGreatDoor
open Go.RowKit

theorem recs_set_at (rs : List RecV) (p j : Nat) (u : Value) (r' : RecV) (hp : p < rs.length) (hj : j < 8) (hr : r'.cells = (rs[p]!).cells.set j u) : (recs rs).set (p * 8 + j) u = recs (rs.set p r') := by
  induction rs generalizing p with
  | nil => simp at hp
  | cons r rs ih =>
    cases p with
    | zero =>
      simp only [recs, List.flatMap_cons, List.set_cons_zero, Nat.zero_mul, Nat.zero_add] at hr ⊢
      rw [List.set_append_left _ _ (by simp [RecV.cells]; exact hj)]
      rw [hr]
      rfl
    | succ p =>
      have := ih p (by simpa using hp) (by simpa using hr)
      simp only [recs, List.flatMap_cons, List.set_cons_succ] at this ⊢
      rw [List.set_append_right _ _ (by simp [RecV.cells]; omega), show (p + 1) * 8 + j - r.cells.length = p * 8 + j by simp [RecV.cells]; omega, this]

theorem set_name (rs : List RecV) (p : Nat) (r' : RecV) (hp : p < rs.length) (hn : r'.name = (rs[p]!).name) (i : Nat) (hi : i < rs.length) : ((rs.set p r')[i]!).name = (rs[i]!).name := by
  rw [getElem!_pos (rs.set p r') i (by simpa using hi), getElem!_pos rs i hi, List.getElem_set]
  split
  · rename_i h; subst h; rw [hn, getElem!_pos rs p hp]
  · rfl

theorem Sorted.set {rs : List RecV} (h : Sorted rs) (p : Nat) (r' : RecV) (hp : p < rs.length) (hn : r'.name = (rs[p]!).name) : Sorted (rs.set p r') := by
  intro i j hij hj
  rw [List.length_set] at hj
  rw [set_name rs p r' hp hn i (by omega), set_name rs p r' hp hn j hj]
  exact h i j hij hj

theorem posOf_set (rs : List RecV) (p : Nat) (r' : RecV) (nm : ByteArray) (hp : p < rs.length) (hn : r'.name = (rs[p]!).name) : posOf (rs.set p r') nm = posOf rs nm := by
  unfold posOf
  have e : ∀ l : List RecV, l.countP (fun r => decide (cmpB r.name nm < 0)) = (l.map RecV.name).countP (fun x => decide (cmpB x nm < 0)) := fun l => by rw [List.countP_map]; rfl
  rw [e, e]
  congr 1
  rw [List.map_set, hn, getElem!_pos rs p hp]
  apply List.ext_getElem
  · simp
  · intro i h1 h2
    rw [List.getElem_set]
    split
    · rename_i h; subst h; simp
    · rfl

theorem hasName_set (rs : List RecV) (p : Nat) (r' : RecV) (nm : ByteArray) (hp : p < rs.length) (hn : r'.name = (rs[p]!).name) : hasName (rs.set p r') nm = hasName rs nm := by
  unfold hasName
  rw [posOf_set rs p r' nm hp hn, List.length_set]
  by_cases h : posOf rs nm < rs.length
  · rw [set_name rs p r' hp hn _ h]
  · rw [decide_eq_false h]; simp

theorem has_lt {rs : List RecV} {nm : ByteArray} (h : hasName rs nm = true) : posOf rs nm < rs.length := by unfold hasName at h; simp at h; exact h.1
theorem has_name {rs : List RecV} {nm : ByteArray} (h : hasName rs nm = true) : (rs[posOf rs nm]!).name = nm := by
  unfold hasName at h
  rw [Bool.and_eq_true] at h
  exact cmpB_zero.1 (of_decide_eq_true h.2)

/-- A record with another shard laid beside. -/
def RecV.laid (r x : RecV) : RecV := { r with na := x.sa, nn := x.sn, nc := x.sc }
/-- A record whose next shard has taken the place. -/
def RecV.turned (r : RecV) : RecV := { r with epoch := r.epoch + 1, sa := r.na, sn := r.nn, sc := r.nc, na := none, nn := 0, nc := 0 }
end Go.Proofs.YtcegdgmbponapabGreatDoor

namespace Go.Proofs.YtcegdgmbponapabGreatDoor
open Go.RowKit
attribute [local go_sem ↓] Go.wp_at_zero Go.wp_at_succ

theorem row_some {w : World} {base n size : Nat} {e : TypeId} {L : List Value} {v : Value} (h : w.ownsRow base e size v n L) (hn : 0 < n) : ∃ g cap, v = .slice (some ⟨g, 0, none⟩) n cap ∧ base ≤ g ∧ g < w.heap.size := by
  rcases h with ⟨h1, ⟨h2, h3⟩ | ⟨g, cap, cur, rfl, h3, h4, _⟩⟩
  · omega
  · exact ⟨g, cap, rfl, h3, cells_lt h4⟩

set_option maxRecDepth 100000 in
set_option maxHeartbeats 1000000 in
theorem lay_yes (S : Nat) (down : Bool) (v : Value) (rs : List RecV) (r : RecV) (w : World) (h : Sto w S down v rs) (hyes : hasName rs r.name = true) :
    Calls Tryz.prog 123 #[.pointer (some ⟨S, 0, none⟩), r.val] w fun e w' =>
      e = .returned (.tuple #[]) ∧ Sto w' S down v (rs.set (posOf rs r.name) ((rs[posOf rs r.name]!).laid r)) ∧ Spared (fun b => v.ownBlock = some b) w w' := by
  obtain ⟨a, c, hv, hst⟩ := h.st
  have hba := (Below.refl w.heap.size w).alloc (Nat.le_refl _) (.cells #[.string r.name, .int .i64 r.mode, .int .i64 r.t, .int .i64 r.l, .int .i64 r.size, .int .i64 r.epoch, .slice r.sa r.sn r.sc, .slice r.na r.nn r.nc] 127)
  have HP := hid (place_any S down a c rs r.name _ (hst.keeps hba (Nat.le_refl _)))
  rw [hyes] at HP
  have hlt := has_lt hyes
  obtain ⟨g, cap, hv2, _, hg⟩ := row_some h.row (by omega)
  have HS := hid h
  obtain ⟨p, hp⟩ : ∃ p, p = posOf rs r.name := ⟨_, rfl⟩
  rw [← hp] at HP hlt ⊢
  have hSlt := hst.lt
  rw [hv] at hv2
  obtain ⟨rfl, _, rfl⟩ := (by simpa using hv2 : a = some ⟨g, 0, none⟩ ∧ True ∧ c = cap)
  have HV := hid hv
  have HPP := hid hp
  have hle := h.le
  clear h hyes hst hp hv
  unfold RecV.val
  go_enter Tryz.func123, Tryz.ntmps123
  go_wp2_with fail
  refine HP.out.mono ?_
  rintro e w1 ⟨rfl, hb1⟩
  have hb01 : Below w.heap.size w w1 := hba.trans (hb1.mono (by simp))
  have hS1 := HS.out.keeps (Spared.ofBelow (own := fun _ => False) hb01 (Nat.le_refl _)) (fun h => h) (fun _ _ h => h)
  have HS1 := hid hS1
  have c1 : w1.cell? ⟨S, 1, none⟩ = some (.slice (some ⟨g, 0, none⟩) rs.length c) := by rw [cells_at hS1.hp, HV.out]; rfl
  have hrow := hS1.row
  rw [HV.out] at hrow
  have k7 : ∃ x, w1.cell? ⟨g, p * 8 + 7, none⟩ = some x := by
    rw [hrow.cellAt _ (by omega)]
    exact ⟨_, List.getElem?_eq_getElem (by rw [recs_length]; omega)⟩
  obtain ⟨x7, k7⟩ := k7
  have f7 : w1.frozen? ⟨g, p * 8 + 7, none⟩ = false := hrow.frozenAt _
  have HROW := hid hrow
  have hc1 : ∀ o, w1.cell? ⟨w.heap.size, o, none⟩ = _ := fun o => (bcell hb1).1 w.heap.size o (by simp)
  have hlt' : (p : Int) < (rs.length : Int) := by omega
  have HLT := hid hlt
  generalize hn : rs.length = n at *
  have HN := hid hn
  clear hS1 hrow hn hlt
  go_wp2_with fail
  go_region
  have hne : S ≠ g := fun e => HS1.out.ne g (by rw [HV.out]; rfl) e.symm
  refine bodyPost_end (by simp [results, Tryz.results123, go_sem]) rfl ⟨rfl, Sto.drew ⟨?_, ?_, ?_, ?_⟩, ?_⟩
  · rw [Below.heap_setCell _ _ _ _ hne]; exact HS1.out.hp
  · rw [List.length_set, HN.out, HV.out, ← recs_set_at rs p 7 (.slice r.sa r.sn r.sc) _ (by rw [HN.out]; exact HLT.out) (by decide) rfl]
    exact (HROW.out.stored _ _).1
  · exact HS1.out.so.set p _ (by rw [HN.out]; exact HLT.out) rfl
  · rw [List.length_set]; exact HS1.out.le
  · exact ((Spared.ofBelow hb01 (Nat.le_refl _)).setCell (by show v.ownBlock = some g; rw [HV.out]; rfl) _).drew
end Go.Proofs.YtcegdgmbponapabGreatDoor
