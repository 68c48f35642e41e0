/-
  How stores and a vault lie in memory; what a call that writes into them spares.
  The pen; what a call does to a store, as a list of functions.
-/
import Derived.Test.YtcegdgmbponapaaGreatDoorPart14
namespace Go.Proofs.YtcegdgmbponapaaGreatDoor
open Go.RowKit

/-- All blocks but the owned ones are as they were; the streams too. -/
structure Spared (own : Nat → Prop) (w w' : World) : Prop where
  os : w'.os = w.os
  tape : w'.tape = w.tape
  output : w'.output = w.output
  size : w.heap.size ≤ w'.heap.size
  block : ∀ k, k < w.heap.size → ¬ own k → w'.heap[k]? = w.heap[k]?

theorem Spared.refl (own : Nat → Prop) (w : World) : Spared own w w := ⟨rfl, rfl, rfl, Nat.le_refl _, fun _ _ _ => rfl⟩
theorem Spared.trans {own : Nat → Prop} {a b c : World} (h : Spared own a b) (k : Spared own b c) : Spared own a c :=
  ⟨k.os.trans h.os, k.tape.trans h.tape, k.output.trans h.output, Nat.le_trans h.size k.size, fun i hi ho => (k.block i (Nat.lt_of_lt_of_le hi h.size) ho).trans (h.block i hi ho)⟩
theorem Spared.mono {own own' : Nat → Prop} {w w' : World} (h : Spared own w w') (hm : ∀ k, own k → own' k) : Spared own' w w' :=
  ⟨h.os, h.tape, h.output, h.size, fun k hk ho => h.block k hk fun h' => ho (hm k h')⟩
/-- What is owned from the world's end on does not count. -/
theorem Spared.monoOld {own own' : Nat → Prop} {w w' : World} (h : Spared own w w') (hm : ∀ k, k < w.heap.size → own k → own' k) : Spared own' w w' :=
  ⟨h.os, h.tape, h.output, h.size, fun k hk ho => h.block k hk fun h' => ho (hm k hk h')⟩
theorem Spared.ofBelow {own : Nat → Prop} {w w' : World} {B : Nat} (h : Below B w w') (hB : w.heap.size ≤ B) : Spared own w w' :=
  ⟨h.os, h.tape, h.output, h.size, fun k hk _ => h.block k (by omega)⟩
theorem Spared.below {own : Nat → Prop} {w w' : World} (h : Spared own w w') (B : Nat) (hB : B ≤ w.heap.size) (ho : ∀ k, own k → B ≤ k) : Below B w w' :=
  ⟨h.os, h.tape, h.output, h.size, fun k hk => h.block k (by omega) fun h' => by have := ho k h'; omega⟩
theorem Spared.setCell {own : Nat → Prop} {a w : World} (h : Spared own a w) {p : Addr} (hp : own p.block) (u : Value) : Spared own a (w.setCell p u) :=
  h.trans ⟨rfl, rfl, rfl, by simp [World.setCell], fun k _ ho => Below.heap_setCell _ _ _ _ fun e => ho (e ▸ hp)⟩
theorem Spared.drew {own : Nat → Prop} {a w : World} (h : Spared own a w) : Spared own a w.drew := ⟨h.os, h.tape, h.output, h.size, h.block⟩
theorem Spared.heap {own : Nat → Prop} {w w' : World} (h : Spared own w w') {b : Nat} {o : Obj} (hb : w.heap[b]? = some o) (ho : ¬ own b) : w'.heap[b]? = some o := by
  have hlt : b < w.heap.size := (Array.getElem?_eq_some_iff.1 hb).1
  rw [h.block b hlt ho]; exact hb

theorem cells_at {w : World} {b k : Nat} {cs : Array Value} {e : TypeId} (h : w.heap[b]? = some (.cells cs e)) : w.cell? ⟨b, k, none⟩ = cs[k]? := by simp [World.cell?, h]
theorem cells_fz {w : World} {b k : Nat} {cs : Array Value} {e : TypeId} (h : w.heap[b]? = some (.cells cs e)) : w.frozen? ⟨b, k, none⟩ = false := by simp [World.frozen?, h]
theorem cells_set {w : World} {b k : Nat} {cs : Array Value} {e : TypeId} (u : Value) (h : w.heap[b]? = some (.cells cs e)) : (w.setCell ⟨b, k, none⟩ u).heap[b]? = some (.cells (cs.setIfInBounds k u) e) := by
  simp [World.setCell, Array.getElem?_modify, h]
theorem cells_lt {w : World} {b : Nat} {o : Obj} (h : w.heap[b]? = some o) : b < w.heap.size := (Array.getElem?_eq_some_iff.1 h).1

/-- A row of whatever size reads as it was made. -/
theorem owns_rd_size {w : World} {base n size : Nat} {e : TypeId} {L : List Value} {v : Value} (h : w.ownsRow base e size v n L) : ∃ a cap, v = .slice a n cap ∧ Rd w a L := by
  have h0 := h
  obtain ⟨h1, h2⟩ := h
  rcases h2 with ⟨h2, h3⟩ | ⟨g', cap, cur, h2, h3, h4, h5, h6, h7, h8⟩
  · subst h3
    have : L = [] := List.length_eq_zero_iff.1 (by omega)
    subst this
    exact ⟨none, 0, h2, Rd.nil _ _⟩
  · subst h2
    refine ⟨_, cap, rfl, fun k v hk => ⟨g', 0, rfl, cells_lt h4, ?_⟩⟩
    have hkl : k < n * size := by
      rcases Nat.lt_or_ge k L.length with h' | h'
      · omega
      · rw [List.getElem?_eq_none h'] at hk; simp at hk
    rw [Nat.zero_add, h0.cellAt k hkl, hk]

/-- A row lies where it lay. -/
theorem owns_spared {own : Nat → Prop} {w w' : World} {base n size : Nat} {e : TypeId} {L : List Value} {v : Value} (h : w.ownsRow base e size v n L) (hs : Spared own w w') (ho : ∀ b, v.ownBlock = some b → ¬ own b) : w'.ownsRow base e size v n L := by
  obtain ⟨h1, h2⟩ := h
  refine ⟨h1, ?_⟩
  rcases h2 with h2 | ⟨g', cap, cur, rfl, h3, h4, h5⟩
  · exact .inl h2
  · exact .inr ⟨g', cap, cur, rfl, h3, hs.heap h4 (ho g' rfl), h5⟩

/-- A store, as it lies and may be written. -/
structure Sto (w : World) (S : Nat) (down : Bool) (v : Value) (rs : List RecV) : Prop where
  hp : w.heap[S]? = some (.cells #[.bool down, v] 178)
  row : w.ownsRow 0 152 8 v rs.length (recs rs)
  so : Sorted rs
  le : rs.length ≤ 10

theorem Sto.st {w : World} {S : Nat} {down : Bool} {v : Value} {rs : List RecV} (h : Sto w S down v rs) : ∃ a c, v = .slice a rs.length c ∧ St w S down a c rs := by
  obtain ⟨a, c, rfl, hrd⟩ := owns_rd_size h.row
  exact ⟨a, c, rfl, cells_lt h.hp, by rw [cells_at h.hp]; rfl, by rw [cells_at h.hp]; rfl, hrd, h.so, h.le⟩

theorem Sto.keeps {own : Nat → Prop} {w w' : World} {S : Nat} {down : Bool} {v : Value} {rs : List RecV} (h : Sto w S down v rs) (hs : Spared own w w') (h1 : ¬ own S) (h2 : ∀ b, v.ownBlock = some b → ¬ own b) : Sto w' S down v rs :=
  ⟨hs.heap h.hp h1, owns_spared h.row hs h2, h.so, h.le⟩

theorem Sto.ne {w : World} {S : Nat} {down : Bool} {v : Value} {rs : List RecV} (h : Sto w S down v rs) (b : Nat) (hb : v.ownBlock = some b) : b ≠ S := by
  rintro rfl
  rcases h.row with ⟨_, ⟨rfl, _⟩ | ⟨g, cap, cur, rfl, _, h4, _⟩⟩
  · cases hb
  · cases hb
    have := h.hp
    rw [h4] at this
    cases this

theorem Sto.drew {w : World} {S : Nat} {down : Bool} {v : Value} {rs : List RecV} (h : Sto w S down v rs) : Sto w.drew S down v rs := ⟨h.hp, h.row.drew, h.so, h.le⟩

/-- A vault, as it lies and may be written. -/
structure Vt (w : World) (V key n B bc : Nat) (sp : Nat → Nat) (done : Int) (crashes : Bool) (ahead : Int) (crashed : Bool) : Prop where
  hp : w.heap[V]? = some (.cells #[.int .u64 key, .slice (some ⟨B, 0, none⟩) n bc, .int .i64 done, .bool crashes, .int .i64 ahead, .bool crashed] 161)
  hb : ∃ L : Array Value, w.heap[B]? = some (.cells L 147) ∧ ∀ i, i < n → L[i]? = some (.pointer (some ⟨sp i, 0, none⟩))

theorem Vt.va {w : World} {V key n B bc : Nat} {sp : Nat → Nat} {done : Int} {crashes : Bool} {ahead : Int} {crashed : Bool} (h : Vt w V key n B bc sp done crashes ahead crashed) : Va w V key n B 0 bc sp := by
  obtain ⟨L, hL, hLi⟩ := h.hb
  exact ⟨cells_lt h.hp, by rw [cells_at h.hp]; rfl, by rw [cells_at h.hp]; rfl, cells_lt hL, fun i hi => by rw [Nat.zero_add, cells_at hL]; exact hLi i hi⟩

theorem Vt.keeps {own : Nat → Prop} {w w' : World} {V key n B bc : Nat} {sp : Nat → Nat} {done : Int} {crashes : Bool} {ahead : Int} {crashed : Bool} (h : Vt w V key n B bc sp done crashes ahead crashed) (hs : Spared own w w') (h1 : ¬ own V) (h2 : ¬ own B) : Vt w' V key n B bc sp done crashes ahead crashed := by
  obtain ⟨L, hL, hLi⟩ := h.hb
  exact ⟨hs.heap h.hp h1, L, hs.heap hL h2, hLi⟩
end Go.Proofs.YtcegdgmbponapaaGreatDoor

namespace Go.Proofs.YtcegdgmbponapaaGreatDoor
open Go.RowKit
attribute [local go_sem ↓] Go.wp_at_zero Go.wp_at_succ

set_option maxRecDepth 100000 in
theorem check_fine (V : Nat) (w : World) (h : w.cell? ⟨V, 5, none⟩ = some (.bool false)) :
    Calls Tryz.prog 88 #[.pointer (some ⟨V, 2, none⟩)] w fun e w' => e = .returned .nilIface ∧ w' = w := by
  go_enter Tryz.func88, Tryz.ntmps88
  go_wp2
  go_ret
  exact ⟨rfl, rfl⟩

set_option maxRecDepth 100000 in
theorem check_crashed (V : Nat) (w : World) (h : w.cell? ⟨V, 5, none⟩ = some (.bool true)) :
    Calls Tryz.prog 88 #[.pointer (some ⟨V, 2, none⟩)] w fun e w' => e = .returned (.iface 136 (.int .i64 1)) ∧ w' = w := by
  go_enter Tryz.func88, Tryz.ntmps88
  go_wp2
  go_ret
  exact ⟨rfl, rfl⟩

/-- A vault behind one write that was done. -/
def nextOf (w : World) (V : Nat) (done ahead : Int) : World := (w.setCell ⟨V, 4, none⟩ (.int .i64 (wrap64 (ahead - 1)))).setCell ⟨V, 2, none⟩ (.int .i64 (wrap64 (done + 1)))

set_option maxRecDepth 100000 in
theorem next_free (V : Nat) (v0 v1 : Value) (done ahead : Int) (crashed : Bool) (w : World) (h : w.heap[V]? = some (.cells #[v0, v1, .int .i64 done, .bool false, .int .i64 ahead, .bool crashed] 161)) :
    Calls Tryz.prog 135 #[.pointer (some ⟨V, 2, none⟩)] w fun e w' => e = .returned .nilIface ∧ w' = nextOf w V done ahead := by
  have c2 : w.cell? ⟨V, 2, none⟩ = some (.int .i64 done) := by rw [cells_at h]; rfl
  have c3 : w.cell? ⟨V, 3, none⟩ = some (.bool false) := by rw [cells_at h]; rfl
  have c4 : w.cell? ⟨V, 4, none⟩ = some (.int .i64 ahead) := by rw [cells_at h]; rfl
  have f2 : w.frozen? ⟨V, 2, none⟩ = false := cells_fz h
  have f4 : w.frozen? ⟨V, 4, none⟩ = false := cells_fz h
  go_enter Tryz.func135, Tryz.ntmps135
  go_wp2
  go_ret
  exact ⟨rfl, rfl⟩

theorem nextOf_heap {w : World} {V : Nat} {v0 v1 : Value} {done ahead : Int} {crashes crashed : Bool} (h : w.heap[V]? = some (.cells #[v0, v1, .int .i64 done, .bool crashes, .int .i64 ahead, .bool crashed] 161)) :
    (nextOf w V done ahead).heap[V]? = some (.cells #[v0, v1, .int .i64 (wrap64 (done + 1)), .bool crashes, .int .i64 (wrap64 (ahead - 1)), .bool crashed] 161) := by
  unfold nextOf
  rw [cells_set _ (cells_set _ h)]
  rfl

theorem nextOf_spared (w : World) (V : Nat) (done ahead : Int) : Spared (fun b => b = V) w (nextOf w V done ahead) :=
  ((Spared.refl (fun b => b = V) w).setCell (p := ⟨V, 4, none⟩) rfl _).setCell (p := ⟨V, 2, none⟩) rfl _

/-- What a call does to each store, as functions. -/
def stepFns : Nat → List Nat
  | 0 => [155]
  | 1 => [182]
  | 2 => [183, 184]
  | 3 => [184]
  | 4 => [185]
  | _ => []
def fnV (f : Nat) : Value := .func (.func f) #[] #[]

/-- A list of functions lies in memory. -/
def Fns (w : World) (g : Nat) (fs : List Nat) : Prop := g < w.heap.size ∧ ∀ (i f : Nat), fs[i]? = some f → w.cell? ⟨g, i, none⟩ = some (fnV f)

theorem Fns.keeps {own : Nat → Prop} {w w' : World} {g : Nat} {fs : List Nat} (h : Fns w g fs) (hs : Spared own w w') (ho : ¬ own g) : Fns w' g fs :=
  ⟨Nat.lt_of_lt_of_le h.1 hs.size, fun i f hi => by rw [World.cell?_of_block (hs.block g h.1 ho)]; exact h.2 i f hi⟩

set_option maxRecDepth 100000 in
set_option maxHeartbeats 1000000 in
theorem steps_at0 (w : World) : Calls Tryz.prog 134 #[.int .i64 0] w fun e w' => ∃ g, e = .returned (.slice (some ⟨g, 0, none⟩) 1 1) ∧ w.heap.size ≤ g ∧ Fns w' g (stepFns 0) ∧ Below w.heap.size w w' := by
  go_enter Tryz.func134, Tryz.ntmps134
  go_wp2
  go_ret
  refine ⟨w.heap.size, rfl, by omega, ⟨by simp <;> omega, fun i f hi => ?_⟩, ?_⟩
  · first
      | (cases i with
        | zero => simp [stepFns] at hi <;> (subst hi; unfold fnV; (iterate 6 (rw [World.cell?_alloc_lt _ _ _ (by simp <;> omega)])); rw [World.cell?_alloc_at _ _ _ _ (by simp)]; rfl)
        | succ i => cases i with
          | zero => simp [stepFns] at hi <;> (subst hi; unfold fnV; (iterate 6 (rw [World.cell?_alloc_lt _ _ _ (by simp <;> omega)])); rw [World.cell?_alloc_at _ _ _ _ (by simp)]; rfl)
          | succ i => simp [stepFns] at hi)
  · exact ((((((((Below.refl _ _).alloc (Nat.le_refl _) _).alloc (by simp) _).alloc (by simp <;> omega) _).alloc (by simp <;> omega) _).alloc (by simp <;> omega) _).alloc (by simp <;> omega) _).alloc (by simp <;> omega) _)
set_option maxRecDepth 100000 in
set_option maxHeartbeats 1000000 in
theorem steps_at1 (w : World) : Calls Tryz.prog 134 #[.int .i64 1] w fun e w' => ∃ g, e = .returned (.slice (some ⟨g, 0, none⟩) 1 1) ∧ w.heap.size ≤ g ∧ Fns w' g (stepFns 1) ∧ Below w.heap.size w w' := by
  go_enter Tryz.func134, Tryz.ntmps134
  go_wp2
  go_ret
  refine ⟨(w.heap.size + 1), rfl, by omega, ⟨by simp <;> omega, fun i f hi => ?_⟩, ?_⟩
  · first
      | (cases i with
        | zero => simp [stepFns] at hi <;> (subst hi; unfold fnV; (iterate 5 (rw [World.cell?_alloc_lt _ _ _ (by simp <;> omega)])); rw [World.cell?_alloc_at _ _ _ _ (by simp)]; rfl)
        | succ i => cases i with
          | zero => simp [stepFns] at hi <;> (subst hi; unfold fnV; (iterate 5 (rw [World.cell?_alloc_lt _ _ _ (by simp <;> omega)])); rw [World.cell?_alloc_at _ _ _ _ (by simp)]; rfl)
          | succ i => simp [stepFns] at hi)
  · exact ((((((((Below.refl _ _).alloc (Nat.le_refl _) _).alloc (by simp) _).alloc (by simp <;> omega) _).alloc (by simp <;> omega) _).alloc (by simp <;> omega) _).alloc (by simp <;> omega) _).alloc (by simp <;> omega) _)
set_option maxRecDepth 100000 in
set_option maxHeartbeats 1000000 in
theorem steps_at2 (w : World) : Calls Tryz.prog 134 #[.int .i64 2] w fun e w' => ∃ g, e = .returned (.slice (some ⟨g, 0, none⟩) 2 2) ∧ w.heap.size ≤ g ∧ Fns w' g (stepFns 2) ∧ Below w.heap.size w w' := by
  go_enter Tryz.func134, Tryz.ntmps134
  go_wp2
  go_ret
  refine ⟨(w.heap.size + 1 + 1), rfl, by omega, ⟨by simp <;> omega, fun i f hi => ?_⟩, ?_⟩
  · first
      | (cases i with
        | zero => simp [stepFns] at hi <;> (subst hi; unfold fnV; (iterate 4 (rw [World.cell?_alloc_lt _ _ _ (by simp <;> omega)])); rw [World.cell?_alloc_at _ _ _ _ (by simp)]; rfl)
        | succ i => cases i with
          | zero => simp [stepFns] at hi <;> (subst hi; unfold fnV; (iterate 4 (rw [World.cell?_alloc_lt _ _ _ (by simp <;> omega)])); rw [World.cell?_alloc_at _ _ _ _ (by simp)]; rfl)
          | succ i => simp [stepFns] at hi)
  · exact ((((((((Below.refl _ _).alloc (Nat.le_refl _) _).alloc (by simp) _).alloc (by simp <;> omega) _).alloc (by simp <;> omega) _).alloc (by simp <;> omega) _).alloc (by simp <;> omega) _).alloc (by simp <;> omega) _)
set_option maxRecDepth 100000 in
set_option maxHeartbeats 1000000 in
theorem steps_at3 (w : World) : Calls Tryz.prog 134 #[.int .i64 3] w fun e w' => ∃ g, e = .returned (.slice (some ⟨g, 0, none⟩) 1 1) ∧ w.heap.size ≤ g ∧ Fns w' g (stepFns 3) ∧ Below w.heap.size w w' := by
  go_enter Tryz.func134, Tryz.ntmps134
  go_wp2
  go_ret
  refine ⟨(w.heap.size + 1 + 1 + 1), rfl, by omega, ⟨by simp <;> omega, fun i f hi => ?_⟩, ?_⟩
  · first
      | (cases i with
        | zero => simp [stepFns] at hi <;> (subst hi; unfold fnV; (iterate 3 (rw [World.cell?_alloc_lt _ _ _ (by simp <;> omega)])); rw [World.cell?_alloc_at _ _ _ _ (by simp)]; rfl)
        | succ i => cases i with
          | zero => simp [stepFns] at hi <;> (subst hi; unfold fnV; (iterate 3 (rw [World.cell?_alloc_lt _ _ _ (by simp <;> omega)])); rw [World.cell?_alloc_at _ _ _ _ (by simp)]; rfl)
          | succ i => simp [stepFns] at hi)
  · exact ((((((((Below.refl _ _).alloc (Nat.le_refl _) _).alloc (by simp) _).alloc (by simp <;> omega) _).alloc (by simp <;> omega) _).alloc (by simp <;> omega) _).alloc (by simp <;> omega) _).alloc (by simp <;> omega) _)
set_option maxRecDepth 100000 in
set_option maxHeartbeats 1000000 in
theorem steps_at4 (w : World) : Calls Tryz.prog 134 #[.int .i64 4] w fun e w' => ∃ g, e = .returned (.slice (some ⟨g, 0, none⟩) 1 1) ∧ w.heap.size ≤ g ∧ Fns w' g (stepFns 4) ∧ Below w.heap.size w w' := by
  go_enter Tryz.func134, Tryz.ntmps134
  go_wp2
  go_ret
  refine ⟨(w.heap.size + 1 + 1 + 1 + 1), rfl, by omega, ⟨by simp <;> omega, fun i f hi => ?_⟩, ?_⟩
  · first
      | (cases i with
        | zero => simp [stepFns] at hi <;> (subst hi; unfold fnV; (iterate 2 (rw [World.cell?_alloc_lt _ _ _ (by simp <;> omega)])); rw [World.cell?_alloc_at _ _ _ _ (by simp)]; rfl)
        | succ i => cases i with
          | zero => simp [stepFns] at hi <;> (subst hi; unfold fnV; (iterate 2 (rw [World.cell?_alloc_lt _ _ _ (by simp <;> omega)])); rw [World.cell?_alloc_at _ _ _ _ (by simp)]; rfl)
          | succ i => simp [stepFns] at hi)
  · exact ((((((((Below.refl _ _).alloc (Nat.le_refl _) _).alloc (by simp) _).alloc (by simp <;> omega) _).alloc (by simp <;> omega) _).alloc (by simp <;> omega) _).alloc (by simp <;> omega) _).alloc (by simp <;> omega) _)
set_option maxRecDepth 100000 in
set_option maxHeartbeats 1000000 in
theorem steps_at5 (w : World) : Calls Tryz.prog 134 #[.int .i64 5] w fun e w' => ∃ g, e = .returned (.slice (some ⟨g, 0, none⟩) 0 0) ∧ w.heap.size ≤ g ∧ Fns w' g (stepFns 5) ∧ Below w.heap.size w w' := by
  go_enter Tryz.func134, Tryz.ntmps134
  go_wp2
  go_ret
  refine ⟨(w.heap.size + 1 + 1 + 1 + 1 + 1), rfl, by omega, ⟨by simp <;> omega, fun i f hi => ?_⟩, ?_⟩
  · first
      | (cases i with
        | zero => simp [stepFns] at hi <;> (subst hi; unfold fnV; (iterate 1 (rw [World.cell?_alloc_lt _ _ _ (by simp <;> omega)])); rw [World.cell?_alloc_at _ _ _ _ (by simp)]; rfl)
        | succ i => cases i with
          | zero => simp [stepFns] at hi <;> (subst hi; unfold fnV; (iterate 1 (rw [World.cell?_alloc_lt _ _ _ (by simp <;> omega)])); rw [World.cell?_alloc_at _ _ _ _ (by simp)]; rfl)
          | succ i => simp [stepFns] at hi)
  · exact ((((((((Below.refl _ _).alloc (Nat.le_refl _) _).alloc (by simp) _).alloc (by simp <;> omega) _).alloc (by simp <;> omega) _).alloc (by simp <;> omega) _).alloc (by simp <;> omega) _).alloc (by simp <;> omega) _)
end Go.Proofs.YtcegdgmbponapaaGreatDoor
