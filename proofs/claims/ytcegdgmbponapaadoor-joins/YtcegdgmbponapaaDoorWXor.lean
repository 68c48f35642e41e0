/-
  The walk of cofferkeep.xor.
-/
import Derived.Test.YtcegdgmbponapaaDoorWTape
namespace Go.Proofs.YtcegdgmbponapaaDoor
open Go.RowKit
attribute [local go_sem ↓] Go.wp_at_zero Go.wp_at_succ

/-- Bytes that came out of a string: a block of them, its mark behind its last cell. -/
def FB (w : World) (g : Nat) (xs : List UInt8) : Prop :=
  ∃ C : Array Value, w.heap[g]? = some (.cells C 5 (C.size, C.size + 1)) ∧ xs.length ≤ C.size ∧ C.toList.take xs.length = bs xs

theorem FB.at {w : World} {g : Nat} {xs : List UInt8} (h : FB w g xs) (k : Nat) (hk : k < xs.length) : w.cell? ⟨g, k, none⟩ = some (.int .u8 (xs.getD k 0).toNat) ∧ w.frozen? ⟨g, k, none⟩ = false := by
  obtain ⟨C, h1, h2, h3⟩ := h
  constructor
  · have : C.toList[k]? = (bs xs)[k]? := by rw [← h3, List.getElem?_take, if_pos hk]
    rw [bs_get _ _ hk] at this
    simp only [World.cell?, h1]
    simpa using this
  · simp only [World.frozen?, h1]
    simp; omega

theorem FB.set {w : World} {g : Nat} {xs : List UInt8} (h : FB w g xs) (k : Nat) (x : UInt8) : FB (w.setCell ⟨g, k, none⟩ (.int .u8 x.toNat)) g (xs.set k x) := by
  obtain ⟨C, h1, h2, h3⟩ := h
  refine ⟨C.setIfInBounds k (.int .u8 x.toNat), ?_, by simpa using h2, ?_⟩
  · rw [setCell_eq_setRow w g k C _ _ _ h1, setRow_heap w g C _ _ _ h1]
    simp
  · rw [List.length_set, ← bs_set, ← h3]
    simp [List.take_set]

theorem FB.rd {w : World} {g : Nat} {xs : List UInt8} (h : FB w g xs) (hg : g < w.heap.size) : Rd w (some ⟨g, 0, none⟩) (bs xs) := by
  intro k v hk
  have hkl : k < xs.length := by
    rcases Nat.lt_or_ge k xs.length with h' | h'
    · exact h'
    · rw [List.getElem?_eq_none (by rw [bs_length]; exact h')] at hk; simp at hk
  refine ⟨g, 0, rfl, hg, ?_⟩
  rw [Nat.zero_add, (h.at k hkl).1, ← bs_get _ _ hkl, hk]

/-- '[]byte(s)', its bytes one's own. -/
theorem conv_own (w : World) (s : ByteArray) : ∃ cap w', (convert 9 60 (.string s)).run Tryd.prog w = .ok (.slice (some ⟨w.heap.size, 0, none⟩) s.size cap) w' ∧ FB w' w.heap.size s.data.toList ∧ Below w.heap.size w w' ∧ w'.heap.size = w.heap.size + 1 := by
  refine ⟨_, _, run_bytes_of_string w 9 60 5 s Tryd.underlying9 Tryd.underlying60 Tryd.underlying5, ?_, ((Below.refl _ _).drew).alloc (Nat.le_refl _) _, by simp⟩
  refine ⟨bytesRow s (grownCap w s.size 0 5), ?_, ?_, ?_⟩
  · show (w.heap.push _)[w.heap.size]? = _
    simp
  · simp [bytesRow]
  · simp [bytesRow, bs]

def xorL (a b : List UInt8) : List UInt8 := (List.range a.length).map fun i => a.getD i 0 ^^^ b.getD i 0

theorem xor_size (a b : ByteArray) : (⟨(xorL a.data.toList b.data.toList).toArray⟩ : ByteArray).size = a.size := by
  show (xorL a.data.toList b.data.toList).toArray.size = a.data.size
  simp [xorL]

theorem xor_full (a b : List UInt8) : rowTo (fun i => a.getD i 0 ^^^ b.getD i 0) a a.length a.length = xorL a b := by rw [rowTo_full]; rfl

theorem rowTo_setU (F : Nat → UInt8) (Z : List UInt8) (n k : Nat) : (rowTo F Z n k).set k (F k) = rowTo F Z n (k + 1) := by
  apply List.ext_getElem
  · simp [rowTo]
  · intro i h1 h2
    simp only [List.getElem_set]
    split
    · rename_i h; subst h; simp [rowTo]
    · rename_i h
      simp only [rowTo, List.getElem_map, List.getElem_range]
      by_cases hi : i < k
      · simp [hi, show i < k + 1 from by omega]
      · simp [hi, show ¬ i < k + 1 from by omega]

theorem rowTo_cur (F : Nat → UInt8) (Z : List UInt8) (n k : Nat) (h : k < n) : (rowTo F Z n k).getD k 0 = Z.getD k 0 := by simp [rowTo, h]
theorem ba_getD (b : ByteArray) (k : Nat) (h : k < b.size) : b.data.toList.getD k 0 = b[k] := by
  have h' : k < b.data.toList.length := h
  rw [List.getD_eq_getElem?_getD, List.getElem?_eq_getElem h']
  rfl

set_option maxRecDepth 100000 in
set_option maxHeartbeats 1000000 in
theorem xor_any (a b : ByteArray) (w : World) (h : a.size = b.size) (ha : a.size ≤ 1000) :
    Calls Tryd.prog 28 #[.string a, .string b] w fun e w' => e = .returned (.string ⟨(xorL a.data.toList b.data.toList).toArray⟩) ∧ Below w.heap.size w w' := by
  obtain ⟨cap1, w1, hconv, hfb, hb1, hs1⟩ := conv_own w a
  have HS := hid hs1
  have HH := hid h
  have hb : b.size ≤ 1000 := by omega
  have hab : ((a.size : Int) != (b.size : Int)) = false := by simp [h]
  clear hs1 h
  go_enter Tryd.func28, Tryd.ntmps28
  go_wp2
  go_loopw [6] (fun i wr => ∃ k : Nat, k ≤ a.size ∧ i = .int .i64 k ∧ FB wr w.heap.size (rowTo (fun i => a.data.toList.getD i 0 ^^^ b.data.toList.getD i 0) a.data.toList a.data.toList.length k) ∧ w.heap.size < wr.heap.size ∧ Below w.heap.size w wr)
    (fun i _ => a.size - (intOf i).toNat)
  case atStart => exact ⟨0, Nat.zero_le _, rfl, by rw [rowTo_zero _ _ _ rfl]; exact hfb, by rw [HS.out]; omega, hb1⟩
  case round =>
    obtain ⟨k, hk, rfl, hf, hg, hbel⟩ := hrel
    have hal : a.data.toList.length = a.size := rfl
    by_cases hlt : k < a.size
    · have hkb : k < b.size := by rw [← HH.out]; exact hlt
      have hk1 : (k : Int) < (b.size : Int) := by omega
      obtain ⟨hc, hz⟩ := hf.at k (by rw [rowTo_length, hal]; exact hlt)
      rw [rowTo_cur _ _ _ _ (by rw [hal]; exact hlt)] at hc
      have hst := hf.set k (a.data.toList.getD k 0 ^^^ b.data.toList.getD k 0)
      rw [rowTo_setU (fun i => a.data.toList.getD i 0 ^^^ b.data.toList.getD i 0)] at hst
      have hbk := ba_getD b k hkb
      rw [hbk] at hst
      have HST := hid hst
      generalize a.data.toList.getD k 0 = x at *
      clear hf hst hbk hal
      go_wp2_with fail
      go_region
      all_goals
        go_wp2
        go_roundw
        case rel => exact ⟨k + 1, by omega, by go_num, by rw [bits_xor]; exact HST.out, by simpa using hg, (hbel.setCell (p := ⟨w.heap.size, k, none⟩) (Nat.le_refl _) _).drew⟩
        case measure => simp [intOf]; omega
    · have hkn : k = a.size := by omega
      subst hkn
      rw [← hal, xor_full] at hf
      have hconv2 := conv_string wr (some ⟨w.heap.size, 0, none⟩) cap1 a.size (xorL a.data.toList b.data.toList) (by simp [xorL]) (hf.rd hg)
      clear hf hal
      go_wp2
      go_ret
      exact ⟨rfl, hbel⟩

end Go.Proofs.YtcegdgmbponapaaDoor
