/-
  Pieces put together: the polynomial through any of them, as many as the threshold, is the one that they were cut by. Nothing of the program in it.
-/
import Derived.Test.YtcegdgmbponapaaDoorHidesMath
namespace Cof

/-- What gathered has: group by group the bytes of all rows. -/
def gather (rows : List (List UInt8)) (G : Nat) : List UInt8 := (List.range G).flatMap fun g => rows.map fun r => r.getD g 0

/-- The value of the pieces that are taken: of each its store and its bytes. -/
def join (mode t l size : Nat) (ss : List Nat) (rows : List (List UInt8)) : List UInt8 :=
  (gather (carry (ss.map fun s => UInt8.ofNat (1 + s)) rows (groupAt mode t l)) (ngroups mode t l size)).take size

theorem gather_length (rows : List (List UInt8)) (G : Nat) : (gather rows G).length = G * rows.length := by
  induction G with
  | zero => simp [gather]
  | succ G ih =>
    have : gather rows (G + 1) = gather rows G ++ rows.map fun r => r.getD G 0 := by simp [gather, List.range_succ]
    rw [this, List.length_append, ih]; simp [Nat.succ_mul]

theorem groupAt_length (mode t l : Nat) : (groupAt mode t l).length = gsize mode t l := by
  unfold groupAt gsize; split <;> simp [length_run]
theorem tapeAt_length (mode t : Nat) : (tapeAt mode t).length = tsize mode t := by
  unfold tapeAt tsize; split <;> simp [length_run]

theorem known_nodup (mode t l : Nat) (ht : t ≤ 8) (hl : l ≤ 8) : (groupAt mode t l ++ tapeAt mode t).Nodup := by
  unfold groupAt tapeAt
  split
  · rw [List.append_nil]; exact run_nodup 1 t (by omega)
  · exact frm_nodup l (t - 1) hl (by omega)

theorem pieceAt_itp' (v tape : List UInt8) (mode t l i g : Nat) :
    pieceAt v tape mode t l i g = itp (groupAt mode t l ++ tapeAt mode t) ((List.range (gsize mode t l + tsize mode t)).map (knownAt v tape (gsize mode t l) (tsize mode t) g)) (UInt8.ofNat (1 + i)) := by
  unfold pieceAt itp
  rw [List.length_append, groupAt_length, tapeAt_length]
  apply csum_congr
  intro j hj
  refine ⟨rfl, ?_⟩
  simp [hj]

theorem flat_range (h : Nat → UInt8) (w G : Nat) : ((List.range G).flatMap fun g => (List.range w).map fun j => h (g * w + j)) = (List.range (G * w)).map h := by
  induction G with
  | zero => simp
  | succ G ih => rw [List.range_succ, List.flatMap_append, ih, Nat.succ_mul, List.range_add]; simp

/-- The stores' points differ. -/
theorem stores_nodup (ss : List Nat) (hn : ss.Nodup) (h8 : ∀ s ∈ ss, s < 8) : (ss.map fun s => UInt8.ofNat (1 + s)).Nodup := by
  have := few_nodup ss hn h8
  have e : (ss.map fun s => UInt8.ofNat (1 + s)) = ss.map fun f => UInt8.ofNat (f + 1) := List.map_congr_left fun s _ => by rw [Nat.add_comm]
  rw [e]; exact this

/-- Any pieces, as many as the threshold, give the value. -/
theorem join_split (v tape : List UInt8) (mode t l n : Nat) (ss : List Nat) (hg0 : 0 < gsize mode t l) (ht : t ≤ 8) (hl : l ≤ 8) (htp : tape.length = tsize mode t * ngroups mode t l v.length)
    (hn : ss.Nodup) (h8 : ∀ s ∈ ss, s < 8) (hsn : ∀ s ∈ ss, s < n) (hth : ss.length = gsize mode t l + tsize mode t) :
    join mode t l v.length ss (ss.map fun s => (split v mode t l n tape).getD s []) = v := by
  have key : ∀ g j, g < ngroups mode t l v.length → j < gsize mode t l → (carryTo (ss.map fun s => UInt8.ofNat (1 + s)) (ss.map fun s => (split v mode t l n tape).getD s []) ((groupAt mode t l).getD j 0) ss.length).getD g 0 = v.getD (g * gsize mode t l + j) 0 := by
    intro g j hg hj
    rw [carryTo_getD]
    have e1 : csum (fun k => polyAt (basis (ss.map fun s => UInt8.ofNat (1 + s)) k) ((groupAt mode t l).getD j 0)) (fun k => ((ss.map fun s => (split v mode t l n tape).getD s []).getD k []).getD g 0) ss.length
        = itp (ss.map fun s => UInt8.ofNat (1 + s)) (ss.map fun s => pieceAt v tape mode t l s g) ((groupAt mode t l).getD j 0) := by
      unfold itp
      rw [List.length_map]
      apply csum_congr
      intro k hk
      refine ⟨rfl, ?_⟩
      have hsk : ss[k] < n := hsn _ (List.getElem_mem hk)
      simp only [List.getD_eq_getElem?_getD, List.getElem?_map, List.getElem?_eq_getElem hk, Option.map_some, Option.getD_some]
      have := split_row v tape mode t l n ss[k] hsk hg0 htp
      rw [List.getD_eq_getElem?_getD] at this
      rw [this]
      simp [hg]
    rw [e1, itp_transfer (ss.map fun s => UInt8.ofNat (1 + s)) _ (groupAt mode t l ++ tapeAt mode t) ((List.range (gsize mode t l + tsize mode t)).map (knownAt v tape (gsize mode t l) (tsize mode t) g)) (stores_nodup ss hn h8)
      (by rw [List.length_append, groupAt_length, tapeAt_length, List.length_map, hth]) (fun k hk => ?_)]
    · have e2 : (groupAt mode t l).getD j 0 = (groupAt mode t l ++ tapeAt mode t).getD j 0 := by rw [app_get_left _ _ _ (by rw [groupAt_length]; exact hj)]
      rw [e2, itp_node _ _ (known_nodup mode t l ht hl) j (by rw [List.length_append, groupAt_length, tapeAt_length]; omega)]
      have : j < gsize mode t l + tsize mode t := by omega
      simp [this, knownAt, hj]
    · have hk' : k < ss.length := by simpa using hk
      rw [show (ss.map fun s => UInt8.ofNat (1 + s)).getD k 0 = UInt8.ofNat (1 + ss[k]) by simp [hk'], ← pieceAt_itp']
      simp [hk']
  unfold join gather carry
  have e3 : ((List.range (ngroups mode t l v.length)).flatMap fun g => ((groupAt mode t l).map fun x => carryTo (ss.map fun s => UInt8.ofNat (1 + s)) (ss.map fun s => (split v mode t l n tape).getD s []) x (ss.map fun s => (split v mode t l n tape).getD s []).length).map fun r => r.getD g 0)
      = (List.range (ngroups mode t l v.length)).flatMap fun g => (List.range (gsize mode t l)).map fun j => v.getD (g * gsize mode t l + j) 0 := by
    refine congrArg List.flatten (List.map_congr_left fun g hg => ?_)
    have hg := List.mem_range.1 hg
    rw [List.map_map, List.length_map]
    apply List.ext_getElem
    · simp [groupAt_length]
    · intro j h1 h2
      have hj : j < gsize mode t l := by simpa using h2
      have hj2 : j < (groupAt mode t l).length := by rw [groupAt_length]; exact hj
      have := key g j hg hj
      rw [show (groupAt mode t l).getD j 0 = (groupAt mode t l)[j] by simp [hj2]] at this
      simpa using this
  rw [e3, flat_range (fun i => v.getD i 0)]
  apply List.ext_getElem
  · rw [List.length_take, List.length_map, List.length_range]
    have : v.length ≤ ngroups mode t l v.length * gsize mode t l := by
      unfold ngroups
      have h1 := Nat.div_add_mod (v.length + gsize mode t l - 1) (gsize mode t l)
      have h2 := Nat.mod_lt (v.length + gsize mode t l - 1) hg0
      rw [Nat.mul_comm]
      omega
    omega
  · intro i h1 h2
    simp [h2]
end Cof
