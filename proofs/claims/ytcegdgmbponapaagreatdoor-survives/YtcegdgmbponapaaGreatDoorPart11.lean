/-
  A slice of strings that is handed in.
  Names in their order; records ar cells.
-/
import Derived.Test.YtcegdgmbponapaaGreatDoorPart08
import Derived.SliceStrings
import Derived.Test.YtcegdgmbponapaaGreatDoorPart01
import Derived.Lib.Bytealg
namespace Go.Proofs.YtcegdgmbponapaaGreatDoor
open Go.ChangeShapes Go.WideShapes Go.ChangeAt Go.RowKit Go.Joins
open Go.ChangeMaps (open_string shut_string)

theorem Tryz.cellsText : Tryz.prog.cellsOf 9 = 1 := by kernel_rfl

set_option maxRecDepth 100000 in
theorem open_textsArg {H : Type} {enc : TypeId × Value → H} {W : World} {base : Nat} {v : Value} {d : DataW H} {p : List MemPlace} (hv : Value.okWide Tryz.prog W .any base 30 v) (h : DataW.Trod enc Tryz.prog W 0 (fun _ => true) true 30 v d p) (hlt : ∀ x ∈ p, x.block < W.heap.size) :
    ∃ (a : Option Addr) (len cap : Nat) (tl : List ByteArray), v = .slice a len cap ∧ len = tl.length ∧ len ≤ maxLen ∧ Rd W a (tl.map Value.string) ∧ (∀ s ∈ tl, s.size ≤ maxLen) := by
  obtain ⟨a0, len, cap, rfl⟩ := okWide_slice Tryz.underlying30 hv
  obtain ⟨fuel, hf⟩ := h
  rcases open_strings Tryz.underlying30 Tryz.underlying9 Tryz.cellsText hf with ⟨hcs, hx⟩ | ⟨a, len', cap', tl, hcs, _, hl, hm, hz, hx, hcell, hws⟩
  · simp [Value.cells] at hcs
    obtain ⟨rfl, rfl, rfl⟩ := hcs
    exact ⟨_, _, _, [], rfl, rfl, by unfold maxLen; omega, Rd.nil _ _, fun z hz => by cases hz⟩
  · simp [Value.cells] at hcs
    obtain ⟨rfl, rfl, rfl⟩ := hcs
    simp only [Prod.mk.injEq] at hx
    obtain ⟨rfl, rfl⟩ := hx
    simp only [if_true] at hz
    refine ⟨_, _, _, tl.take len, rfl, by rw [List.length_take]; omega, by omega, ?_, fun z hz => hws z (List.mem_of_mem_take hz)⟩
    intro k u hk
    have hkl : k < len := by
      rcases Nat.lt_or_ge k len with h | h
      · exact h
      · rw [List.getElem?_eq_none (by simp; omega)] at hk; simp at hk
    obtain ⟨b, off, spot⟩ := a
    have hspot : spot = none := by simpa [Addr.add] using World.cell?_spot (hcell 0 (by omega))
    subst hspot
    refine ⟨b, off, rfl, hlt (.cell b off) (MemPlace.mem_row.2 ⟨0, by omega, by simp⟩), ?_⟩
    have h1 := hcell k (by omega)
    rw [add_at] at h1
    rw [h1, ← hk]
    have : k < tl.length := by omega
    simp [this, hkl]
end Go.Proofs.YtcegdgmbponapaaGreatDoor

namespace Go.Proofs.YtcegdgmbponapaaGreatDoor
open Go.RowKit

abbrev cmpB (a b : ByteArray) : Int := Lib.compareBytes a.data.toList b.data.toList

theorem cmpL_zero : ∀ a b : List UInt8, Lib.compareBytes a b = 0 ↔ a = b
  | [], [] => by simp [Lib.compareBytes]
  | [], _ :: _ => by simp [Lib.compareBytes]
  | _ :: _, [] => by simp [Lib.compareBytes]
  | a :: ar, b :: br => by
    simp only [Lib.compareBytes, List.cons.injEq]
    have ih := cmpL_zero ar br
    split
    · rename_i h
      refine ⟨fun e => by simp at e, fun e => ?_⟩
      rw [e.1] at h
      exact absurd h (UInt8.lt_irrefl _)
    · split
      · rename_i h1 h2
        refine ⟨fun e => by simp at e, fun e => ?_⟩
        rw [e.1] at h2
        exact absurd h2 (UInt8.lt_irrefl _)
      · rename_i h1 h2
        have : a = b := UInt8.le_antisymm (UInt8.not_lt.1 h2) (UInt8.not_lt.1 h1)
        rw [ih]
        exact ⟨fun e => ⟨this, e⟩, fun e => e.2⟩

theorem cmpL_trans : ∀ a b c : List UInt8, Lib.compareBytes a b < 0 → Lib.compareBytes b c < 0 → Lib.compareBytes a c < 0
  | [], [], c, h, _ => by simp [Lib.compareBytes] at h
  | [], _ :: _, [], _, h => by simp [Lib.compareBytes] at h
  | [], _ :: _, _ :: _, _, _ => by simp [Lib.compareBytes]
  | _ :: _, [], _, h, _ => by simp [Lib.compareBytes] at h
  | _ :: _, _ :: _, [], _, h => by simp [Lib.compareBytes] at h
  | a :: ar, b :: br, c :: cs, h1, h2 => by
    simp only [Lib.compareBytes] at h1 h2 ⊢
    have ih := cmpL_trans ar br cs
    split at h1
    · rename_i hab
      split at h2
      · rename_i hbc
        rw [if_pos (UInt8.lt_trans hab hbc)]; decide
      · rename_i hbc
        split at h2
        · simp at h2
        · rename_i hcb
          have : b = c := UInt8.le_antisymm (UInt8.not_lt.1 hcb) (UInt8.not_lt.1 hbc)
          rw [if_pos (this ▸ hab)]; decide
    · rename_i hab
      split at h1
      · simp at h1
      · rename_i hba
        have e : a = b := UInt8.le_antisymm (UInt8.not_lt.1 hba) (UInt8.not_lt.1 hab)
        subst e
        split at h2
        · rename_i hbc
          rw [if_pos hbc]; decide
        · rename_i hbc
          split at h2
          · simp at h2
          · rename_i hcb
            rw [if_neg hbc, if_neg hcb]
            exact ih h1 h2

theorem cmpL_flip : ∀ a b : List UInt8, Lib.compareBytes a b = - Lib.compareBytes b a
  | [], [] => by simp [Lib.compareBytes]
  | [], _ :: _ => by simp [Lib.compareBytes]
  | _ :: _, [] => by simp [Lib.compareBytes]
  | a :: ar, b :: br => by
    simp only [Lib.compareBytes]
    have ih := cmpL_flip ar br
    by_cases h1 : a < b
    · have h2 : ¬ b < a := fun h => UInt8.lt_irrefl _ (UInt8.lt_trans h1 h)
      simp [h1, h2]
    · by_cases h2 : b < a
      · simp [h1, h2]
      · simp [h1, h2, ih]

theorem ba_ext {a b : ByteArray} (h : a.data.toList = b.data.toList) : a = b := by
  cases a; cases b; simp at h; rw [h]

theorem cmpB_zero {a b : ByteArray} : cmpB a b = 0 ↔ a = b := by
  unfold cmpB
  rw [cmpL_zero]
  exact ⟨ba_ext, fun h => by rw [h]⟩
theorem cmpB_trans {a b c : ByteArray} (h1 : cmpB a b < 0) (h2 : cmpB b c < 0) : cmpB a c < 0 := cmpL_trans _ _ _ h1 h2
theorem cmpB_flip (a b : ByteArray) : cmpB a b = - cmpB b a := cmpL_flip _ _

/-- What a store has of an object: what is known of it, and where its shard lies. -/
structure RecV where
  name : ByteArray
  mode : Nat
  t : Nat
  l : Nat
  size : Nat
  epoch : Nat
  sa : Option Addr
  sn : Nat
  sc : Nat
  na : Option Addr
  nn : Nat
  nc : Nat

instance : Inhabited RecV := ⟨⟨ByteArray.empty, 0, 0, 0, 0, 0, none, 0, 0, none, 0, 0⟩⟩

def RecV.cells (r : RecV) : List Value := [.string r.name, .int .i64 r.mode, .int .i64 r.t, .int .i64 r.l, .int .i64 r.size, .int .i64 r.epoch, .slice r.sa r.sn r.sc, .slice r.na r.nn r.nc]
def RecV.val (r : RecV) : Value := .agg #[.string r.name, .int .i64 r.mode, .int .i64 r.t, .int .i64 r.l, .int .i64 r.size, .int .i64 r.epoch, .slice r.sa r.sn r.sc, .slice r.na r.nn r.nc]
def recs (rs : List RecV) : List Value := rs.flatMap RecV.cells

theorem recs_length (rs : List RecV) : (recs rs).length = rs.length * 8 := by
  induction rs with
  | nil => rfl
  | cons r rs ih => simp only [recs, List.flatMap_cons, List.length_append] at ih ⊢; rw [ih]; simp [RecV.cells]; omega

theorem recs_at (rs : List RecV) (k j : Nat) (hk : k < rs.length) (hj : j < 8) : (recs rs)[k * 8 + j]? = (rs[k]).cells[j]? := by
  induction rs generalizing k with
  | nil => simp at hk
  | cons r rs ih =>
    cases k with
    | zero =>
      simp only [recs, List.flatMap_cons, List.getElem_cons_zero, Nat.zero_mul, Nat.zero_add]
      rw [List.getElem?_append_left (by simp [RecV.cells]; exact hj)]
    | succ k =>
      have := ih k (by simpa using hk)
      simp only [recs, List.flatMap_cons, List.getElem_cons_succ] at this ⊢
      rw [← this, List.getElem?_append_right (by simp [RecV.cells]; omega), show (k + 1) * 8 + j - r.cells.length = k * 8 + j by simp [RecV.cells]; omega]

/-- The names are in their order. -/
def Sorted (rs : List RecV) : Prop := ∀ i j, i < j → j < rs.length → cmpB (rs[i]!).name (rs[j]!).name < 0

theorem Sorted.mono {rs : List RecV} (h : Sorted rs) (nm : ByteArray) (i j : Nat) (hij : i ≤ j) (hj : j < rs.length) (hc : cmpB (rs[j]!).name nm < 0) : cmpB (rs[i]!).name nm < 0 := by
  rcases Nat.eq_or_lt_of_le hij with rfl | hlt
  · exact hc
  · exact cmpB_trans (h i j hlt hj) hc

/-- How many names are ahead of this one. -/
def posOf (rs : List RecV) (nm : ByteArray) : Nat := rs.countP fun r => decide (cmpB r.name nm < 0)

theorem posOf_eq (rs : List RecV) (nm : ByteArray) : ∀ (i : Nat), i ≤ rs.length → (∀ k, k < i → cmpB (rs[k]!).name nm < 0) → (∀ k, i ≤ k → k < rs.length → ¬ cmpB (rs[k]!).name nm < 0) → posOf rs nm = i := by
  induction rs with
  | nil => intro i hi _ _; simp at hi; simp [posOf, hi]
  | cons r rs ih =>
    intro i hi h1 h2
    cases i with
    | zero =>
      unfold posOf
      rw [List.countP_eq_zero]
      intro x hx
      obtain ⟨k, hk, rfl⟩ := List.getElem_of_mem hx
      have := h2 k (Nat.zero_le _) hk
      rw [getElem!_pos (r :: rs) k hk] at this
      simpa using this
    | succ i =>
      have ha : cmpB r.name nm < 0 := by simpa using h1 0 (Nat.succ_pos _)
      have := ih i (by simpa using hi) (fun k hk => by simpa using h1 (k + 1) (by omega)) (fun k h3 h4 => by simpa using h2 (k + 1) (by omega) (by simpa using h4))
      unfold posOf at this ⊢
      rw [List.countP_cons_of_pos (by simpa using ha), this]

theorem posOf_le (rs : List RecV) (nm : ByteArray) : posOf rs nm ≤ rs.length := List.countP_le_length ..

/-- Is there a record of that name? -/
def hasName (rs : List RecV) (nm : ByteArray) : Bool := decide (posOf rs nm < rs.length) && decide (cmpB (rs[posOf rs nm]!).name nm = 0)
end Go.Proofs.YtcegdgmbponapaaGreatDoor
