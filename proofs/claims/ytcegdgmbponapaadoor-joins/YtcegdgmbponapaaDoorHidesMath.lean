/-
  The tape by which T - 1 stores are dealt what is wanted.
-/
import Derived.Test.YtcegdgmbponapaaDoorInterp
namespace Cof

/-- The points that are wanted of one group: where, and what. -/
def wantX (l : Nat) (few : List Nat) : List UInt8 := run 128 l ++ few.map fun f => UInt8.ofNat (f + 1)
def wantY (v : List UInt8) (l u : Nat) (W : Nat → Nat → UInt8) (g : Nat) : List UInt8 := (List.range l).map (fun j => v.getD (g * l + j) 0) ++ (List.range u).map (W g)
def madeAt (v : List UInt8) (l : Nat) (few : List Nat) (W : Nat → Nat → UInt8) (g r : Nat) : UInt8 := itp (wantX l few) (wantY v l few.length W g) (UInt8.ofNat (192 + r))
def made (v : List UInt8) (l : Nat) (few : List Nat) (W : Nat → Nat → UInt8) : Nat → List UInt8
  | 0 => []
  | G + 1 => made v l few W G ++ (List.range few.length).map (madeAt v l few W G)

theorem made_length (v : List UInt8) (l : Nat) (few : List Nat) (W : Nat → Nat → UInt8) (G : Nat) : (made v l few W G).length = G * few.length := by
  induction G with
  | zero => simp [made]
  | succ G ih => rw [made, List.length_append, ih]; simp [Nat.succ_mul]

theorem made_get (v : List UInt8) (l : Nat) (few : List Nat) (W : Nat → Nat → UInt8) (G g r : Nat) (hg : g < G) (hr : r < few.length) : (made v l few W G).getD (g * few.length + r) 0 = madeAt v l few W g r := by
  induction G with
  | zero => omega
  | succ G ih =>
    rw [made, List.getD_eq_getElem?_getD]
    by_cases h : g < G
    · rw [List.getElem?_append_left, ← List.getD_eq_getElem?_getD, ih h]
      rw [made_length]
      have := Nat.mul_le_mul_right few.length (show g + 1 ≤ G by omega)
      rw [Nat.succ_mul] at this
      omega
    · have : g = G := by omega
      subst this
      rw [List.getElem?_append_right (by rw [made_length]; omega), made_length]
      simp [hr]

theorem run_get (s c j : Nat) (h : j < c) : (run s c).getD j 0 = UInt8.ofNat (s + j) := by simp [run, h]

theorem u8_inj {a b : Nat} (ha : a < 256) (hb : b < 256) (h : UInt8.ofNat a = UInt8.ofNat b) : a = b := by
  have := congrArg UInt8.toNat h
  simpa [Nat.mod_eq_of_lt ha, Nat.mod_eq_of_lt hb] using this

theorem run_nodup (s c : Nat) (h : s + c ≤ 256) : (run s c).Nodup := by
  rw [run]
  refine List.Pairwise.map _ (R := fun a b => a ≠ b ∧ a < c ∧ b < c) ?_ ?_
  · rintro a b ⟨h1, h2, h3⟩ he
    exact h1 (by have := u8_inj (by omega) (by omega) he; omega)
  · refine List.Pairwise.imp_of_mem ?_ (List.nodup_range (n := c))
    intro a b ha hb hab
    exact ⟨hab, List.mem_range.1 ha, List.mem_range.1 hb⟩

theorem nodup_app {a b : List UInt8} (ha : a.Nodup) (hb : b.Nodup) (h : ∀ x ∈ a, ∀ y ∈ b, x ≠ y) : (a ++ b).Nodup := by
  rw [List.nodup_append]; exact ⟨ha, hb, h⟩

theorem few_nodup (few : List Nat) (hn : few.Nodup) (h8 : ∀ f ∈ few, f < 8) : (few.map fun f => UInt8.ofNat (f + 1)).Nodup := by
  refine List.Pairwise.map _ (R := fun a b => a ≠ b ∧ a < 8 ∧ b < 8) ?_ ?_
  · rintro a b ⟨h1, h2, h3⟩ he
    exact h1 (by have := u8_inj (by omega) (by omega) he; omega)
  · refine List.Pairwise.imp_of_mem ?_ hn
    intro a b ha hb hab
    exact ⟨hab, h8 a ha, h8 b hb⟩

theorem wantX_nodup (l : Nat) (few : List Nat) (hl : l ≤ 8) (hn : few.Nodup) (h8 : ∀ f ∈ few, f < 8) : (wantX l few).Nodup := by
  refine nodup_app (run_nodup 128 l (by omega)) (few_nodup few hn h8) ?_
  intro x hx y hy e
  obtain ⟨j, hj, rfl⟩ := List.mem_map.1 hx
  obtain ⟨f, hf, rfl⟩ := List.mem_map.1 hy
  have := u8_inj (by have := List.mem_range.1 hj; omega) (by have := h8 f hf; omega) e
  have := h8 f hf
  omega

theorem frm_nodup (l u : Nat) (hl : l ≤ 8) (hu : u ≤ 8) : (run 128 l ++ run 192 u).Nodup := by
  refine nodup_app (run_nodup 128 l (by omega)) (run_nodup 192 u (by omega)) ?_
  intro x hx y hy e
  obtain ⟨j, hj, rfl⟩ := List.mem_map.1 hx
  obtain ⟨r, hr, rfl⟩ := List.mem_map.1 hy
  have hj' := List.mem_range.1 hj
  have hr' := List.mem_range.1 hr
  have := u8_inj (by omega) (by omega) e
  omega

theorem app_get_left (a b : List UInt8) (j : Nat) (h : j < a.length) : (a ++ b).getD j 0 = a.getD j 0 := by
  rw [List.getD_eq_getElem?_getD, List.getElem?_append_left h, ← List.getD_eq_getElem?_getD]
theorem app_get_right (a b : List UInt8) (j : Nat) (h : a.length ≤ j) : (a ++ b).getD j 0 = b.getD (j - a.length) 0 := by
  rw [List.getD_eq_getElem?_getD, List.getElem?_append_right h, ← List.getD_eq_getElem?_getD]

/-- A piece by the polynomial through what is known. -/
theorem pieceAt_itp (v tape : List UInt8) (t l i g : Nat) :
    pieceAt v tape 0 t l i g = itp (run 128 l ++ run 192 (t - 1)) ((List.range l).map (fun j => v.getD (g * l + j) 0) ++ (List.range (t - 1)).map (fun r => tape.getD (g * (t - 1) + r) 0)) (UInt8.ofNat (1 + i)) := by
  unfold pieceAt itp
  have e1 : (run 128 l ++ run 192 (t - 1)).length = l + (t - 1) := by simp [length_run]
  rw [e1]
  show csum (coef 0 t l i) (knownAt v tape l (t - 1) g) (l + (t - 1)) = _
  apply csum_congr
  intro j hj
  refine ⟨rfl, ?_⟩
  unfold knownAt
  by_cases h : j < l
  · rw [if_pos h, app_get_left _ _ _ (by simpa using h)]; simp [h]
  · rw [if_neg h, app_get_right _ _ _ (by simp; omega)]
    have : j - l < t - 1 := by omega
    simp [this]

/-- What is wanted is dealt. -/
theorem dealt_wanted (v tape : List UInt8) (t l : Nat) (few : List Nat) (W : Nat → Nat → UInt8) (g i : Nat) (ht : few.length = t - 1) (ht1 : 1 ≤ t) (ht8 : t ≤ 8) (hl : l ≤ 8) (hn : few.Nodup) (h8 : ∀ f ∈ few, f < 8) (hi : i < few.length)
    (htape : ∀ r, r < t - 1 → tape.getD (g * (t - 1) + r) 0 = madeAt v l few W g r) : pieceAt v tape 0 t l (few.getD i 0) g = W g i := by
  rw [pieceAt_itp v tape t l _ g]
  have hx : (wantX l few).length = (run 128 l ++ run 192 (t - 1)).length := by simp [wantX, length_run, ht]
  rw [itp_transfer (run 128 l ++ run 192 (t - 1)) _ (wantX l few) (wantY v l few.length W g) (frm_nodup l (t - 1) hl (by omega)) hx ?_ (UInt8.ofNat (1 + few.getD i 0))]
  · have hnode : UInt8.ofNat (1 + few.getD i 0) = (wantX l few).getD (l + i) 0 := by
      rw [wantX, app_get_right _ _ _ (by rw [length_run]; omega), length_run]
      simp [hi]
      exact UInt8.add_comm _ _
    rw [hnode, itp_node _ _ (wantX_nodup l few hl hn h8) _ (by simp [wantX, length_run]; omega), wantY, app_get_right _ _ _ (by simp)]
    simp [hi]
  · intro j hj
    have hj' : j < l + (t - 1) := by simpa [length_run] using hj
    by_cases h : j < l
    · have e1 : (run 128 l ++ run 192 (t - 1)).getD j 0 = (wantX l few).getD j 0 := by
        rw [app_get_left _ _ _ (by rw [length_run]; exact h), wantX, app_get_left _ _ _ (by rw [length_run]; exact h)]
      rw [e1, itp_node _ _ (wantX_nodup l few hl hn h8) _ (by simp [wantX, length_run]; omega), wantY, app_get_left _ _ _ (by simpa using h), app_get_left _ _ _ (by simpa using h)]
    · rw [app_get_right (run 128 l) _ _ (by rw [length_run]; omega), length_run, run_get 192 (t - 1) (j - l) (by omega), app_get_right _ _ _ (by simp; omega)]
      have hr : j - l < t - 1 := by omega
      simp only [List.length_map, List.length_range]
      rw [List.getD_eq_getElem?_getD, List.getElem?_map, List.getElem?_range hr]
      simp only [Option.map_some, Option.getD_some]
      rw [htape _ hr]; rfl

/-- Another tape deals them otherwise. -/
theorem dealt_otherwise (v tape tape' : List UInt8) (t l : Nat) (few : List Nat) (g : Nat) (ht : few.length = t - 1) (ht1 : 1 ≤ t) (ht8 : t ≤ 8) (hl : l ≤ 8) (hn : few.Nodup) (h8 : ∀ f ∈ few, f < 8)
    (h : ∀ i, i < few.length → pieceAt v tape 0 t l (few.getD i 0) g = pieceAt v tape' 0 t l (few.getD i 0) g) (r : Nat) (hr : r < t - 1) : tape.getD (g * (t - 1) + r) 0 = tape'.getD (g * (t - 1) + r) 0 := by
  have key : ∀ x, itp (run 128 l ++ run 192 (t - 1)) ((List.range l).map (fun j => v.getD (g * l + j) 0) ++ (List.range (t - 1)).map (fun r => tape.getD (g * (t - 1) + r) 0)) x = itp (run 128 l ++ run 192 (t - 1)) ((List.range l).map (fun j => v.getD (g * l + j) 0) ++ (List.range (t - 1)).map (fun r => tape'.getD (g * (t - 1) + r) 0)) x := by
    intro x
    have hx : (wantX l few).length = (run 128 l ++ run 192 (t - 1)).length := by simp [wantX, length_run, ht]
    rw [itp_poly, itp_poly]
    refine poly_unique (wantX l few) _ _ (wantX_nodup l few hl hn h8) (by rw [hx]; exact comb_length _ _ _ (Nat.le_refl _)) (by rw [hx]; exact comb_length _ _ _ (Nat.le_refl _)) (fun j hj => ?_) x
    rw [← itp_poly, ← itp_poly]
    by_cases hjl : j < l
    · have e1 : (wantX l few).getD j 0 = (run 128 l ++ run 192 (t - 1)).getD j 0 := by
        rw [app_get_left _ _ _ (by rw [length_run]; exact hjl), wantX, app_get_left _ _ _ (by rw [length_run]; exact hjl)]
      rw [e1, itp_node _ _ (frm_nodup l (t - 1) hl (by omega)) _ (by simp [length_run]; omega), itp_node _ _ (frm_nodup l (t - 1) hl (by omega)) _ (by simp [length_run]; omega), app_get_left _ _ _ (by simpa using hjl), app_get_left _ _ _ (by simpa using hjl)]
    · have hi : j - l < few.length := by simp [wantX, length_run] at hj; omega
      have e1 : (wantX l few).getD j 0 = UInt8.ofNat (1 + few.getD (j - l) 0) := by
        rw [wantX, app_get_right _ _ _ (by rw [length_run]; omega), length_run]
        simp [hi]
        exact UInt8.add_comm _ _
      rw [e1, ← pieceAt_itp v tape t l _ g, ← pieceAt_itp v tape' t l _ g]
      exact h _ hi
  have hk := key ((run 128 l ++ run 192 (t - 1)).getD (l + r) 0)
  rw [itp_node _ _ (frm_nodup l (t - 1) hl (by omega)) _ (by simp [length_run]; omega), itp_node _ _ (frm_nodup l (t - 1) hl (by omega)) _ (by simp [length_run]; omega), app_get_right _ _ _ (by simp), app_get_right _ _ _ (by simp)] at hk
  simpa [hr] using hk

theorem tsize0 (t : Nat) : tsize 0 t = t - 1 := rfl

/-- The tape that is made deals every store what it is to have. -/
theorem made_dealt (v : List UInt8) (t l n G : Nat) (few : List Nat) (W : Nat → Nat → UInt8) (i : Nat) (hG : G = ngroups 0 t l v.length) (ht : few.length = t - 1) (ht1 : 1 ≤ t) (ht8 : t ≤ 8) (hl1 : 1 ≤ l) (hl : l ≤ 8) (hn : few.Nodup) (h8 : ∀ f ∈ few, f < 8)
    (hin : ∀ f ∈ few, f < n) (hi : i < few.length) : (split v 0 t l n (made v l few W G)).getD (few.getD i 0) [] = (List.range G).map fun g => W g i := by
  have hfi : few.getD i 0 = few[i] := by simp [hi]
  have hlen : (made v l few W G).length = tsize 0 t * ngroups 0 t l v.length := by rw [made_length, tsize0, ← hG, ht, Nat.mul_comm]
  rw [split_row v _ 0 t l n _ (by rw [hfi]; exact hin _ (List.getElem_mem hi)) (by show 0 < l; exact hl1) hlen, ← hG]
  apply List.map_congr_left
  intro g hg
  refine dealt_wanted v _ t l few W g i ht ht1 ht8 hl hn h8 hi (fun r hr => ?_)
  rw [← ht]
  exact made_get v l few W G g r (List.mem_range.1 hg) (by rw [ht]; exact hr)

/-- Another byte of it: some store is dealt otherwise. -/
theorem other_dealt (v tape : List UInt8) (t l n G : Nat) (few : List Nat) (p : Nat) (x : UInt8) (hG : G = ngroups 0 t l v.length) (ht : few.length = t - 1) (ht1 : 1 ≤ t) (ht8 : t ≤ 8) (hl1 : 1 ≤ l) (hl : l ≤ 8) (hn : few.Nodup) (h8 : ∀ f ∈ few, f < 8)
    (hin : ∀ f ∈ few, f < n) (htl : tape.length = G * few.length) (hp : p < tape.length) (hx : tape.getD p 0 ≠ x) :
    ∃ i, i < few.length ∧ (split v 0 t l n (tape.set p x)).getD (few.getD i 0) [] ≠ (split v 0 t l n tape).getD (few.getD i 0) [] := by
  refine Classical.byContradiction fun hno => ?_
  have hall : ∀ i, i < few.length → (split v 0 t l n (tape.set p x)).getD (few.getD i 0) [] = (split v 0 t l n tape).getD (few.getD i 0) [] := fun i hi => Classical.byContradiction fun h => hno ⟨i, hi, h⟩
  have hlen : tape.length = tsize 0 t * ngroups 0 t l v.length := by rw [tsize0, ← hG, htl, ht, Nat.mul_comm]
  have hpos : 0 < few.length := by
    rcases Nat.eq_zero_or_pos few.length with h | h
    · rw [h, Nat.mul_zero] at htl; omega
    · exact h
  have hgl : p / few.length < G := by rw [Nat.div_lt_iff_lt_mul hpos, ← htl]; exact hp
  have hrl : p % few.length < few.length := Nat.mod_lt _ hpos
  have hpe : p / few.length * few.length + p % few.length = p := by rw [Nat.mul_comm]; exact Nat.div_add_mod _ _
  have key := dealt_otherwise v tape (tape.set p x) t l few (p / few.length) ht ht1 ht8 hl hn h8 (fun i hi => ?_) (p % few.length) (by rw [← ht]; exact hrl)
  · rw [← ht, hpe] at key
    apply hx
    rw [key]
    simp [hp]
  · have hfi : few.getD i 0 = few[i] := by simp [hi]
    have hf : few.getD i 0 < n := by rw [hfi]; exact hin _ (List.getElem_mem hi)
    have h1 := hall i hi
    rw [split_row v _ 0 t l n _ hf (by show 0 < l; exact hl1) (by rw [List.length_set]; exact hlen), split_row v _ 0 t l n _ hf (by show 0 < l; exact hl1) hlen, ← hG] at h1
    have h2 := congrArg (fun r => r[p / few.length]?) h1
    simp [hgl] at h2
    simpa using h2.symm
end Cof
