/-
  The threshold of cofferkeep; pieces that were cut, as Join reads them.
  Join of pieces of a value that was split.
-/
import Derived.Test.YtcegdgmbponapaaGreatDoorWJoin
import Derived.Test.YtcegdgmbponapaaGreatDoorPart07
namespace Go.Proofs.YtcegdgmbponapaaGreatDoor
open Go.RowKit
attribute [local go_sem ↓] Go.wp_at_zero Go.wp_at_succ

set_option maxRecDepth 100000 in
theorem keepThr_any (mode t l n : Nat) (w : World) (h : IsPlan mode t l n) :
    Calls Tryz.prog 18 #[.agg #[.int .i64 mode, .int .i64 t, .int .i64 l]] w fun e w' => e = .returned (.int .i64 ((Cof.gsize mode t l + Cof.tsize mode t : Nat) : Int)) ∧ Below w.heap.size w w' := by
  obtain ⟨h1, h2, h3, h4, h5, h6⟩ := h
  rcases h6 with ⟨rfl, h6⟩ | ⟨rfl, rfl⟩
  · go_enter Tryz.func18, Tryz.ntmps18
    go_wp2
    go_ret
    exact ⟨ret_int (by simp [Cof.gsize, Cof.tsize]; omega), (Below.refl _ _).alloc (Nat.le_refl _) _⟩
  · go_enter Tryz.func18, Tryz.ntmps18
    go_wp2
    go_ret
    exact ⟨ret_int (by simp [Cof.gsize, Cof.tsize]), (Below.refl _ _).alloc (Nat.le_refl _) _⟩

/-- The pieces that were cut, as Join reads them. -/
theorem pieces_right {w : World} {base k : Nat} {x : Value} {rows : List (List UInt8)} {ss : List Nat} (h : w.ownsRow base 63 2 x k (pcs rows ss)) (hk : ss.length = k) :
    ∃ a c, x = .slice a k c ∧ k ≤ c ∧ PRd w a ss (ss.map fun s => ⟨(rows.getD s []).toArray⟩) := by
  rcases Nat.eq_zero_or_pos k with h0 | h0
  · have hs : ss = [] := List.length_eq_zero_iff.1 (by omega)
    subst hs
    rcases h.2 with ⟨h1, h2⟩ | ⟨g, cap, cur, h1, _, _, h2, _⟩
    · exact ⟨none, 0, by rw [h1, h0], by omega, fun i hi => by simp at hi⟩
    · exact ⟨_, _, h1, h2, fun i hi => by simp at hi⟩
  · obtain ⟨g, c, rfl, h1, h2⟩ := h.form h0
    refine ⟨_, _, rfl, owns_cap h, fun i hi => ⟨g, 0, rfl, h2, ?_, ?_⟩⟩
    · rw [Nat.zero_add, h.cellAt (i * 2) (by omega), (pcs_at rows ss i hi).1]; simp [hi]
    · rw [Nat.zero_add, h.cellAt (i * 2 + 1) (by omega), (pcs_at rows ss i hi).2]; simp [hi, str]

theorem PRd.take {w : World} {a : Option Addr} {ss : List Nat} {ps : List ByteArray} (h : PRd w a ss ps) (n : Nat) : PRd w a (ss.take n) (ps.take n) := by
  intro i hi
  have hin : i < n := by simp at hi; omega
  obtain ⟨b, o, h1, h2, h3, h4⟩ := h i (by simp at hi; omega)
  exact ⟨b, o, h1, h2, by rw [h3]; simp [hin], by rw [h4]; simp [hin]⟩
end Go.Proofs.YtcegdgmbponapaaGreatDoor

namespace Go.Proofs.YtcegdgmbponapaaGreatDoor
open Go.RowKit

theorem join_split_ok (mode t l n m c N : Nat) (v x : ByteArray) (aM : Option Addr) (ss : List Nat) (w : World) (hp : IsPlan mode t l n) (hv : v.size ≤ 60) (hx : x.size = Cof.tsize mode t * Cof.ngroups mode t l v.size) (hN : N = Cof.gsize mode t l + Cof.tsize mode t) (hNm : N ≤ m) (hm8 : m ≤ 8) (hmc : m ≤ c) (hsl : ss.length = m) (hnd : ss.Nodup) (hlt : ∀ s ∈ ss, s < n)
    (hlen : ∀ i, i < n → ((Cof.split v.data.toList mode t l n x.data.toList).getD i []).length = Cof.ngroups mode t l v.size)
    (hrd : PRd w aM ss (ss.map fun s => ⟨((Cof.split v.data.toList mode t l n x.data.toList).getD s []).toArray⟩)) :
    Calls Tryz.prog 30 #[.slice aM m c, .agg #[.int .i64 mode, .int .i64 t, .int .i64 l], .int .i64 n, .int .i64 v.size] w fun e w' => e = .returned (.tuple #[.string v, .int .i64 0]) ∧ Below w.heap.size w w' := by
  have hn8 := hp.n8
  have hjs := Cof.join_split v.data.toList x.data.toList mode t l n (ss.take N) (by have := (gsize_le hp).1; omega) (Nat.le_trans hp.tn hn8) (by have h1 := hp.t1; rcases hp.md with ⟨_, h⟩ | ⟨_, h⟩ <;> omega) hx (hnd.sublist (List.take_sublist _ _)) (fun s hs => Nat.lt_of_lt_of_le (hlt s (List.mem_of_mem_take hs)) hn8) (fun s hs => hlt s (List.mem_of_mem_take hs)) (by rw [List.length_take, hsl, ← hN]; omega)
  have hjv : Cof.join mode t l v.size (ss.take N) (((ss.map fun s => (⟨((Cof.split v.data.toList mode t l n x.data.toList).getD s []).toArray⟩ : ByteArray)).take N).map fun p => p.data.toList) = v.data.toList := by
    rw [← List.map_take, List.map_map]
    exact hjs
  have hR : Right w mode t l n v.size aM m c ss (ss.map fun s => (⟨((Cof.split v.data.toList mode t l n x.data.toList).getD s []).toArray⟩ : ByteArray)) := ⟨hp, hv, hsl.symm, hrd, hm8, hmc, hlt, hnd, fun i hi => by
    have hi' : i < ss.length := by rw [hsl]; exact hi
    rw [show (ss.map fun s => (⟨((Cof.split v.data.toList mode t l n x.data.toList).getD s []).toArray⟩ : ByteArray)).getD i ByteArray.empty = ⟨((Cof.split v.data.toList mode t l n x.data.toList).getD ss[i] []).toArray⟩ from by rw [List.getD_eq_getElem?_getD, List.getElem?_map, List.getElem?_eq_getElem hi']; rfl]
    show (List.toArray _).size = _
    rw [List.size_toArray]
    exact hlen ss[i] (hlt _ (List.getElem_mem hi'))⟩
  have h := join_ok mode t l n v.size m c N aM ss _ w hR (by rw [List.length_map, hsl]) hN hNm (by rw [hjv]; rfl)
  rw [hjv, show (⟨v.data.toList.toArray⟩ : ByteArray) = v by simp] at h
  exact h
end Go.Proofs.YtcegdgmbponapaaGreatDoor
