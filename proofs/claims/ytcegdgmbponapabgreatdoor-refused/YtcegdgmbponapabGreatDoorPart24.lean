/-
  The tape by which T - 1 stores are dealt what is wanted.
  Pieces put together: the polynomial through any of them, as many as the threshold, is the one that they were cut by. Nothing of the program in it.
  The walk of cutting.gathered.
-/
import Derived.Test.YtcegdgmbponapabGreatDoorPart23
import Derived.Test.YtcegdgmbponapabGreatDoorPart06
namespace Cof

/-- The points that are wanted of one group: where, and what. -/
def wantX (l : Nat) (few : List Nat) : List UInt8 := run 128 l ++ few.map fun f => UInt8.ofNat (f + 1)
def wantY (v : List UInt8) (l u : Nat) (W : Nat → Nat → UInt8) (g : Nat) : List UInt8 := (List.range l).map (fun j => v.getD (g * l + j) 0) ++ (List.range u).map (W g)
def madeAt (v : List UInt8) (l : Nat) (few : List Nat) (W : Nat → Nat → UInt8) (g r : Nat) : UInt8 := itp (wantX l few) (wantY v l few.length W g) (UInt8.ofNat (192 + r))
def made (v : List UInt8) (l : Nat) (few : List Nat) (W : Nat → Nat → UInt8) : Nat → List UInt8
  | 0 => []
  | G + 1 => made v l few W G ++ (List.range few.length).map (madeAt v l few W G)

theorem made_length (v : List UInt8) (l : Nat) (few : List Nat) (W : Nat → Nat → UInt8) (G : Nat) : (made v l few W G).length = G * few.length := by
  induction G with
  | zero => simp [made]
  | succ G ih => rw [made, List.length_append, ih]; simp [Nat.succ_mul]

theorem made_get (v : List UInt8) (l : Nat) (few : List Nat) (W : Nat → Nat → UInt8) (G g r : Nat) (hg : g < G) (hr : r < few.length) : (made v l few W G).getD (g * few.length + r) 0 = madeAt v l few W g r := by
  induction G with
  | zero => omega
  | succ G ih =>
    rw [made, List.getD_eq_getElem?_getD]
    by_cases h : g < G
    · rw [List.getElem?_append_left, ← List.getD_eq_getElem?_getD, ih h]
      rw [made_length]
      have := Nat.mul_le_mul_right few.length (show g + 1 ≤ G by omega)
      rw [Nat.succ_mul] at this
      omega
    · have : g = G := by omega
      subst this
      rw [List.getElem?_append_right (by rw [made_length]; omega), made_length]
      simp [hr]

theorem run_get (s c j : Nat) (h : j < c) : (run s c).getD j 0 = UInt8.ofNat (s + j) := by simp [run, h]

theorem u8_inj {a b : Nat} (ha : a < 256) (hb : b < 256) (h : UInt8.ofNat a = UInt8.ofNat b) : a = b := by
  have := congrArg UInt8.toNat h
  simpa [Nat.mod_eq_of_lt ha, Nat.mod_eq_of_lt hb] using this

theorem run_nodup (s c : Nat) (h : s + c ≤ 256) : (run s c).Nodup := by
  rw [run]
  refine List.Pairwise.map _ (R := fun a b => a ≠ b ∧ a < c ∧ b < c) ?_ ?_
  · rintro a b ⟨h1, h2, h3⟩ he
    exact h1 (by have := u8_inj (by omega) (by omega) he; omega)
  · refine List.Pairwise.imp_of_mem ?_ (List.nodup_range (n := c))
    intro a b ha hb hab
    exact ⟨hab, List.mem_range.1 ha, List.mem_range.1 hb⟩

theorem nodup_app {a b : List UInt8} (ha : a.Nodup) (hb : b.Nodup) (h : ∀ x ∈ a, ∀ y ∈ b, x ≠ y) : (a ++ b).Nodup := by
  rw [List.nodup_append]; exact ⟨ha, hb, h⟩

theorem few_nodup (few : List Nat) (hn : few.Nodup) (h8 : ∀ f ∈ few, f < 8) : (few.map fun f => UInt8.ofNat (f + 1)).Nodup := by
  refine List.Pairwise.map _ (R := fun a b => a ≠ b ∧ a < 8 ∧ b < 8) ?_ ?_
  · rintro a b ⟨h1, h2, h3⟩ he
    exact h1 (by have := u8_inj (by omega) (by omega) he; omega)
  · refine List.Pairwise.imp_of_mem ?_ hn
    intro a b ha hb hab
    exact ⟨hab, h8 a ha, h8 b hb⟩

theorem wantX_nodup (l : Nat) (few : List Nat) (hl : l ≤ 8) (hn : few.Nodup) (h8 : ∀ f ∈ few, f < 8) : (wantX l few).Nodup := by
  refine nodup_app (run_nodup 128 l (by omega)) (few_nodup few hn h8) ?_
  intro x hx y hy e
  obtain ⟨j, hj, rfl⟩ := List.mem_map.1 hx
  obtain ⟨f, hf, rfl⟩ := List.mem_map.1 hy
  have := u8_inj (by have := List.mem_range.1 hj; omega) (by have := h8 f hf; omega) e
  have := h8 f hf
  omega

theorem frm_nodup (l u : Nat) (hl : l ≤ 8) (hu : u ≤ 8) : (run 128 l ++ run 192 u).Nodup := by
  refine nodup_app (run_nodup 128 l (by omega)) (run_nodup 192 u (by omega)) ?_
  intro x hx y hy e
  obtain ⟨j, hj, rfl⟩ := List.mem_map.1 hx
  obtain ⟨r, hr, rfl⟩ := List.mem_map.1 hy
  have hj' := List.mem_range.1 hj
  have hr' := List.mem_range.1 hr
  have := u8_inj (by omega) (by omega) e
  omega

theorem app_get_left (a b : List UInt8) (j : Nat) (h : j < a.length) : (a ++ b).getD j 0 = a.getD j 0 := by
  rw [List.getD_eq_getElem?_getD, List.getElem?_append_left h, ← List.getD_eq_getElem?_getD]
theorem app_get_right (a b : List UInt8) (j : Nat) (h : a.length ≤ j) : (a ++ b).getD j 0 = b.getD (j - a.length) 0 := by
  rw [List.getD_eq_getElem?_getD, List.getElem?_append_right h, ← List.getD_eq_getElem?_getD]

/-- A piece by the polynomial through what is known. -/
theorem pieceAt_itp (v tape : List UInt8) (t l i g : Nat) :
    pieceAt v tape 0 t l i g = itp (run 128 l ++ run 192 (t - 1)) ((List.range l).map (fun j => v.getD (g * l + j) 0) ++ (List.range (t - 1)).map (fun r => tape.getD (g * (t - 1) + r) 0)) (UInt8.ofNat (1 + i)) := by
  unfold pieceAt itp
  have e1 : (run 128 l ++ run 192 (t - 1)).length = l + (t - 1) := by simp [length_run]
  rw [e1]
  show csum (coef 0 t l i) (knownAt v tape l (t - 1) g) (l + (t - 1)) = _
  apply csum_congr
  intro j hj
  refine ⟨rfl, ?_⟩
  unfold knownAt
  by_cases h : j < l
  · rw [if_pos h, app_get_left _ _ _ (by simpa using h)]; simp [h]
  · rw [if_neg h, app_get_right _ _ _ (by simp; omega)]
    have : j - l < t - 1 := by omega
    simp [this]

/-- What is wanted is dealt. -/
theorem dealt_wanted (v tape : List UInt8) (t l : Nat) (few : List Nat) (W : Nat → Nat → UInt8) (g i : Nat) (ht : few.length = t - 1) (ht1 : 1 ≤ t) (ht8 : t ≤ 8) (hl : l ≤ 8) (hn : few.Nodup) (h8 : ∀ f ∈ few, f < 8) (hi : i < few.length)
    (htape : ∀ r, r < t - 1 → tape.getD (g * (t - 1) + r) 0 = madeAt v l few W g r) : pieceAt v tape 0 t l (few.getD i 0) g = W g i := by
  rw [pieceAt_itp v tape t l _ g]
  have hx : (wantX l few).length = (run 128 l ++ run 192 (t - 1)).length := by simp [wantX, length_run, ht]
  rw [itp_transfer (run 128 l ++ run 192 (t - 1)) _ (wantX l few) (wantY v l few.length W g) (frm_nodup l (t - 1) hl (by omega)) hx ?_ (UInt8.ofNat (1 + few.getD i 0))]
  · have hnode : UInt8.ofNat (1 + few.getD i 0) = (wantX l few).getD (l + i) 0 := by
      rw [wantX, app_get_right _ _ _ (by rw [length_run]; omega), length_run]
      simp [hi]
      exact UInt8.add_comm _ _
    rw [hnode, itp_node _ _ (wantX_nodup l few hl hn h8) _ (by simp [wantX, length_run]; omega), wantY, app_get_right _ _ _ (by simp)]
    simp [hi]
  · intro j hj
    have hj' : j < l + (t - 1) := by simpa [length_run] using hj
    by_cases h : j < l
    · have e1 : (run 128 l ++ run 192 (t - 1)).getD j 0 = (wantX l few).getD j 0 := by
        rw [app_get_left _ _ _ (by rw [length_run]; exact h), wantX, app_get_left _ _ _ (by rw [length_run]; exact h)]
      rw [e1, itp_node _ _ (wantX_nodup l few hl hn h8) _ (by simp [wantX, length_run]; omega), wantY, app_get_left _ _ _ (by simpa using h), app_get_left _ _ _ (by simpa using h)]
    · rw [app_get_right (run 128 l) _ _ (by rw [length_run]; omega), length_run, run_get 192 (t - 1) (j - l) (by omega), app_get_right _ _ _ (by simp; omega)]
      have hr : j - l < t - 1 := by omega
      simp only [List.length_map, List.length_range]
      rw [List.getD_eq_getElem?_getD, List.getElem?_map, List.getElem?_range hr]
      simp only [Option.map_some, Option.getD_some]
      rw [htape _ hr]; rfl

/-- Another tape deals them otherwise. -/
theorem dealt_otherwise (v tape tape' : List UInt8) (t l : Nat) (few : List Nat) (g : Nat) (ht : few.length = t - 1) (ht1 : 1 ≤ t) (ht8 : t ≤ 8) (hl : l ≤ 8) (hn : few.Nodup) (h8 : ∀ f ∈ few, f < 8)
    (h : ∀ i, i < few.length → pieceAt v tape 0 t l (few.getD i 0) g = pieceAt v tape' 0 t l (few.getD i 0) g) (r : Nat) (hr : r < t - 1) : tape.getD (g * (t - 1) + r) 0 = tape'.getD (g * (t - 1) + r) 0 := by
  have key : ∀ x, itp (run 128 l ++ run 192 (t - 1)) ((List.range l).map (fun j => v.getD (g * l + j) 0) ++ (List.range (t - 1)).map (fun r => tape.getD (g * (t - 1) + r) 0)) x = itp (run 128 l ++ run 192 (t - 1)) ((List.range l).map (fun j => v.getD (g * l + j) 0) ++ (List.range (t - 1)).map (fun r => tape'.getD (g * (t - 1) + r) 0)) x := by
    intro x
    have hx : (wantX l few).length = (run 128 l ++ run 192 (t - 1)).length := by simp [wantX, length_run, ht]
    rw [itp_poly, itp_poly]
    refine poly_unique (wantX l few) _ _ (wantX_nodup l few hl hn h8) (by rw [hx]; exact comb_length _ _ _ (Nat.le_refl _)) (by rw [hx]; exact comb_length _ _ _ (Nat.le_refl _)) (fun j hj => ?_) x
    rw [← itp_poly, ← itp_poly]
    by_cases hjl : j < l
    · have e1 : (wantX l few).getD j 0 = (run 128 l ++ run 192 (t - 1)).getD j 0 := by
        rw [app_get_left _ _ _ (by rw [length_run]; exact hjl), wantX, app_get_left _ _ _ (by rw [length_run]; exact hjl)]
      rw [e1, itp_node _ _ (frm_nodup l (t - 1) hl (by omega)) _ (by simp [length_run]; omega), itp_node _ _ (frm_nodup l (t - 1) hl (by omega)) _ (by simp [length_run]; omega), app_get_left _ _ _ (by simpa using hjl), app_get_left _ _ _ (by simpa using hjl)]
    · have hi : j - l < few.length := by simp [wantX, length_run] at hj; omega
      have e1 : (wantX l few).getD j 0 = UInt8.ofNat (1 + few.getD (j - l) 0) := by
        rw [wantX, app_get_right _ _ _ (by rw [length_run]; omega), length_run]
        simp [hi]
        exact UInt8.add_comm _ _
      rw [e1, ← pieceAt_itp v tape t l _ g, ← pieceAt_itp v tape' t l _ g]
      exact h _ hi
  have hk := key ((run 128 l ++ run 192 (t - 1)).getD (l + r) 0)
  rw [itp_node _ _ (frm_nodup l (t - 1) hl (by omega)) _ (by simp [length_run]; omega), itp_node _ _ (frm_nodup l (t - 1) hl (by omega)) _ (by simp [length_run]; omega), app_get_right _ _ _ (by simp), app_get_right _ _ _ (by simp)] at hk
  simpa [hr] using hk

theorem tsize0 (t : Nat) : tsize 0 t = t - 1 := rfl

/-- The tape that is made deals every store what it is to have. -/
theorem made_dealt (v : List UInt8) (t l n G : Nat) (few : List Nat) (W : Nat → Nat → UInt8) (i : Nat) (hG : G = ngroups 0 t l v.length) (ht : few.length = t - 1) (ht1 : 1 ≤ t) (ht8 : t ≤ 8) (hl1 : 1 ≤ l) (hl : l ≤ 8) (hn : few.Nodup) (h8 : ∀ f ∈ few, f < 8)
    (hin : ∀ f ∈ few, f < n) (hi : i < few.length) : (split v 0 t l n (made v l few W G)).getD (few.getD i 0) [] = (List.range G).map fun g => W g i := by
  have hfi : few.getD i 0 = few[i] := by simp [hi]
  have hlen : (made v l few W G).length = tsize 0 t * ngroups 0 t l v.length := by rw [made_length, tsize0, ← hG, ht, Nat.mul_comm]
  rw [split_row v _ 0 t l n _ (by rw [hfi]; exact hin _ (List.getElem_mem hi)) (by show 0 < l; exact hl1) hlen, ← hG]
  apply List.map_congr_left
  intro g hg
  refine dealt_wanted v _ t l few W g i ht ht1 ht8 hl hn h8 hi (fun r hr => ?_)
  rw [← ht]
  exact made_get v l few W G g r (List.mem_range.1 hg) (by rw [ht]; exact hr)

/-- Another byte of it: some store is dealt otherwise. -/
theorem other_dealt (v tape : List UInt8) (t l n G : Nat) (few : List Nat) (p : Nat) (x : UInt8) (hG : G = ngroups 0 t l v.length) (ht : few.length = t - 1) (ht1 : 1 ≤ t) (ht8 : t ≤ 8) (hl1 : 1 ≤ l) (hl : l ≤ 8) (hn : few.Nodup) (h8 : ∀ f ∈ few, f < 8)
    (hin : ∀ f ∈ few, f < n) (htl : tape.length = G * few.length) (hp : p < tape.length) (hx : tape.getD p 0 ≠ x) :
    ∃ i, i < few.length ∧ (split v 0 t l n (tape.set p x)).getD (few.getD i 0) [] ≠ (split v 0 t l n tape).getD (few.getD i 0) [] := by
  refine Classical.byContradiction fun hno => ?_
  have hall : ∀ i, i < few.length → (split v 0 t l n (tape.set p x)).getD (few.getD i 0) [] = (split v 0 t l n tape).getD (few.getD i 0) [] := fun i hi => Classical.byContradiction fun h => hno ⟨i, hi, h⟩
  have hlen : tape.length = tsize 0 t * ngroups 0 t l v.length := by rw [tsize0, ← hG, htl, ht, Nat.mul_comm]
  have hpos : 0 < few.length := by
    rcases Nat.eq_zero_or_pos few.length with h | h
    · rw [h, Nat.mul_zero] at htl; omega
    · exact h
  have hgl : p / few.length < G := by rw [Nat.div_lt_iff_lt_mul hpos, ← htl]; exact hp
  have hrl : p % few.length < few.length := Nat.mod_lt _ hpos
  have hpe : p / few.length * few.length + p % few.length = p := by rw [Nat.mul_comm]; exact Nat.div_add_mod _ _
  have key := dealt_otherwise v tape (tape.set p x) t l few (p / few.length) ht ht1 ht8 hl hn h8 (fun i hi => ?_) (p % few.length) (by rw [← ht]; exact hrl)
  · rw [← ht, hpe] at key
    apply hx
    rw [key]
    simp [hp]
  · have hfi : few.getD i 0 = few[i] := by simp [hi]
    have hf : few.getD i 0 < n := by rw [hfi]; exact hin _ (List.getElem_mem hi)
    have h1 := hall i hi
    rw [split_row v _ 0 t l n _ hf (by show 0 < l; exact hl1) (by rw [List.length_set]; exact hlen), split_row v _ 0 t l n _ hf (by show 0 < l; exact hl1) hlen, ← hG] at h1
    have h2 := congrArg (fun r => r[p / few.length]?) h1
    simp [hgl] at h2
    simpa using h2.symm
end Cof

namespace Cof

/-- What gathered has: group by group the bytes of all rows. -/
def gather (rows : List (List UInt8)) (G : Nat) : List UInt8 := (List.range G).flatMap fun g => rows.map fun r => r.getD g 0

/-- The value of the pieces that are taken: of each its store and its bytes. -/
def join (mode t l size : Nat) (ss : List Nat) (rows : List (List UInt8)) : List UInt8 :=
  (gather (carry (ss.map fun s => UInt8.ofNat (1 + s)) rows (groupAt mode t l)) (ngroups mode t l size)).take size

theorem gather_length (rows : List (List UInt8)) (G : Nat) : (gather rows G).length = G * rows.length := by
  induction G with
  | zero => simp [gather]
  | succ G ih =>
    have : gather rows (G + 1) = gather rows G ++ rows.map fun r => r.getD G 0 := by simp [gather, List.range_succ]
    rw [this, List.length_append, ih]; simp [Nat.succ_mul]

theorem groupAt_length (mode t l : Nat) : (groupAt mode t l).length = gsize mode t l := by
  unfold groupAt gsize; split <;> simp [length_run]
theorem tapeAt_length (mode t : Nat) : (tapeAt mode t).length = tsize mode t := by
  unfold tapeAt tsize; split <;> simp [length_run]

theorem known_nodup (mode t l : Nat) (ht : t ≤ 8) (hl : l ≤ 8) : (groupAt mode t l ++ tapeAt mode t).Nodup := by
  unfold groupAt tapeAt
  split
  · rw [List.append_nil]; exact run_nodup 1 t (by omega)
  · exact frm_nodup l (t - 1) hl (by omega)

theorem pieceAt_itp' (v tape : List UInt8) (mode t l i g : Nat) :
    pieceAt v tape mode t l i g = itp (groupAt mode t l ++ tapeAt mode t) ((List.range (gsize mode t l + tsize mode t)).map (knownAt v tape (gsize mode t l) (tsize mode t) g)) (UInt8.ofNat (1 + i)) := by
  unfold pieceAt itp
  rw [List.length_append, groupAt_length, tapeAt_length]
  apply csum_congr
  intro j hj
  refine ⟨rfl, ?_⟩
  simp [hj]

theorem flat_range (h : Nat → UInt8) (w G : Nat) : ((List.range G).flatMap fun g => (List.range w).map fun j => h (g * w + j)) = (List.range (G * w)).map h := by
  induction G with
  | zero => simp
  | succ G ih => rw [List.range_succ, List.flatMap_append, ih, Nat.succ_mul, List.range_add]; simp

/-- The stores' points differ. -/
theorem stores_nodup (ss : List Nat) (hn : ss.Nodup) (h8 : ∀ s ∈ ss, s < 8) : (ss.map fun s => UInt8.ofNat (1 + s)).Nodup := by
  have := few_nodup ss hn h8
  have e : (ss.map fun s => UInt8.ofNat (1 + s)) = ss.map fun f => UInt8.ofNat (f + 1) := List.map_congr_left fun s _ => by rw [Nat.add_comm]
  rw [e]; exact this

/-- Any pieces, as many as the threshold, give the value. -/
theorem join_split (v tape : List UInt8) (mode t l n : Nat) (ss : List Nat) (hg0 : 0 < gsize mode t l) (ht : t ≤ 8) (hl : l ≤ 8) (htp : tape.length = tsize mode t * ngroups mode t l v.length)
    (hn : ss.Nodup) (h8 : ∀ s ∈ ss, s < 8) (hsn : ∀ s ∈ ss, s < n) (hth : ss.length = gsize mode t l + tsize mode t) :
    join mode t l v.length ss (ss.map fun s => (split v mode t l n tape).getD s []) = v := by
  have key : ∀ g j, g < ngroups mode t l v.length → j < gsize mode t l → (carryTo (ss.map fun s => UInt8.ofNat (1 + s)) (ss.map fun s => (split v mode t l n tape).getD s []) ((groupAt mode t l).getD j 0) ss.length).getD g 0 = v.getD (g * gsize mode t l + j) 0 := by
    intro g j hg hj
    rw [carryTo_getD]
    have e1 : csum (fun k => polyAt (basis (ss.map fun s => UInt8.ofNat (1 + s)) k) ((groupAt mode t l).getD j 0)) (fun k => ((ss.map fun s => (split v mode t l n tape).getD s []).getD k []).getD g 0) ss.length
        = itp (ss.map fun s => UInt8.ofNat (1 + s)) (ss.map fun s => pieceAt v tape mode t l s g) ((groupAt mode t l).getD j 0) := by
      unfold itp
      rw [List.length_map]
      apply csum_congr
      intro k hk
      refine ⟨rfl, ?_⟩
      have hsk : ss[k] < n := hsn _ (List.getElem_mem hk)
      simp only [List.getD_eq_getElem?_getD, List.getElem?_map, List.getElem?_eq_getElem hk, Option.map_some, Option.getD_some]
      have := split_row v tape mode t l n ss[k] hsk hg0 htp
      rw [List.getD_eq_getElem?_getD] at this
      rw [this]
      simp [hg]
    rw [e1, itp_transfer (ss.map fun s => UInt8.ofNat (1 + s)) _ (groupAt mode t l ++ tapeAt mode t) ((List.range (gsize mode t l + tsize mode t)).map (knownAt v tape (gsize mode t l) (tsize mode t) g)) (stores_nodup ss hn h8)
      (by rw [List.length_append, groupAt_length, tapeAt_length, List.length_map, hth]) (fun k hk => ?_)]
    · have e2 : (groupAt mode t l).getD j 0 = (groupAt mode t l ++ tapeAt mode t).getD j 0 := by rw [app_get_left _ _ _ (by rw [groupAt_length]; exact hj)]
      rw [e2, itp_node _ _ (known_nodup mode t l ht hl) j (by rw [List.length_append, groupAt_length, tapeAt_length]; omega)]
      have : j < gsize mode t l + tsize mode t := by omega
      simp [this, knownAt, hj]
    · have hk' : k < ss.length := by simpa using hk
      rw [show (ss.map fun s => UInt8.ofNat (1 + s)).getD k 0 = UInt8.ofNat (1 + ss[k]) by simp [hk'], ← pieceAt_itp']
      simp [hk']
  unfold join gather carry
  have e3 : ((List.range (ngroups mode t l v.length)).flatMap fun g => ((groupAt mode t l).map fun x => carryTo (ss.map fun s => UInt8.ofNat (1 + s)) (ss.map fun s => (split v mode t l n tape).getD s []) x (ss.map fun s => (split v mode t l n tape).getD s []).length).map fun r => r.getD g 0)
      = (List.range (ngroups mode t l v.length)).flatMap fun g => (List.range (gsize mode t l)).map fun j => v.getD (g * gsize mode t l + j) 0 := by
    refine congrArg List.flatten (List.map_congr_left fun g hg => ?_)
    have hg := List.mem_range.1 hg
    rw [List.map_map, List.length_map]
    apply List.ext_getElem
    · simp [groupAt_length]
    · intro j h1 h2
      have hj : j < gsize mode t l := by simpa using h2
      have hj2 : j < (groupAt mode t l).length := by rw [groupAt_length]; exact hj
      have := key g j hg hj
      rw [show (groupAt mode t l).getD j 0 = (groupAt mode t l)[j] by simp [hj2]] at this
      simpa using this
  rw [e3, flat_range (fun i => v.getD i 0)]
  apply List.ext_getElem
  · rw [List.length_take, List.length_map, List.length_range]
    have : v.length ≤ ngroups mode t l v.length * gsize mode t l := by
      unfold ngroups
      have h1 := Nat.div_add_mod (v.length + gsize mode t l - 1) (gsize mode t l)
      have h2 := Nat.mod_lt (v.length + gsize mode t l - 1) hg0
      rw [Nat.mul_comm]
      omega
    omega
  · intro i h1 h2
    simp [h2]
end Cof

namespace Go.Proofs.YtcegdgmbponapabGreatDoor
open Go.RowKit
attribute [local go_sem ↓] Go.wp_at_zero Go.wp_at_succ

theorem gather_succ (rows : List (List UInt8)) (g : Nat) : Cof.gather rows (g + 1) = Cof.gather rows g ++ rows.map fun r => r.getD g 0 := by simp [Cof.gather, List.range_succ]

set_option maxRecDepth 100000 in
set_option maxHeartbeats 1000000 in
theorem gathered_any (aR : Option Addr) (W c G : Nat) (rows : List (List UInt8)) (w : World) (ew : W = rows.length) (hr : RdRows w aR rows) (hW : W ≤ 8) (hG : G ≤ 60) (hlen : ∀ k, k < W → G ≤ (rows.getD k []).length) (hlen2 : ∀ k, (rows.getD k []).length ≤ 500) :
    Calls Tryz.prog 102 #[.slice aR W c, .int .i64 G] w fun e w' => ∃ v, e = .returned v ∧ w'.ownsRow w.heap.size 5 1 v (G * W) (bs (Cof.gather rows G)) ∧ Below w.heap.size w w' := by
  obtain ⟨i0, hi, hz0, hz1, hz2⟩ := info_parts Tryz.info5
  have EW := hid ew
  have HL := hid hlen
  have HL2 := hid hlen2
  clear ew hlen hlen2
  go_enter Tryz.func102, Tryz.ntmps102
  go_wp2_with fail
  go_loopw [5, 10] (fun o i wr => ∃ g : Nat, g ≤ G ∧ i = .int .i64 g ∧ wr.ownsRow w.heap.size 5 1 o (g * W) (bs (Cof.gather rows g)) ∧ Below w.heap.size w wr) (fun _ i _ => G - (intOf i).toNat)
  case atStart => exact ⟨0, Nat.zero_le _, rfl, by rw [Nat.zero_mul]; exact World.ownsRow_nil _ _ _ _, Below.refl _ _⟩
  case round =>
    obtain ⟨g, hg, rfl, hown, hbel⟩ := hrel
    by_cases hlt : g < G
    · obtain ⟨Z, hZ⟩ : ∃ Z, Z = Cof.gather rows g := ⟨_, rfl⟩
      rw [← hZ] at hown
      have hZl : Z.length = g * W := by rw [hZ, Cof.gather_length, EW.out]
      have hgW : g * W ≤ 480 := Nat.mul_le_mul (show g ≤ 60 by omega) hW
      have HZ := hid hZ
      have HZL := hid hZl
      clear hZ hZl
      go_wp2_with fail
      go_loopw [5, 15] (fun o i wq => ∃ j : Nat, j ≤ W ∧ i = .int .i64 j ∧ wq.ownsRow w.heap.size 5 1 o (Z ++ (rows.take j).map fun r => r.getD g 0).length (bs (Z ++ (rows.take j).map fun r => r.getD g 0)) ∧ Below w.heap.size w wq) (fun _ i _ => W - (intOf i).toNat)
      case atStart => exact ⟨0, Nat.zero_le _, rfl, by rw [List.take_zero, List.map_nil, List.append_nil, HZL.out]; exact hown, hbel⟩
      case round =>
        obtain ⟨j, hj, rfl, hown2, hbq⟩ := hrel
        have hzq := hbq.size
        by_cases hjW : j < W
        · have hjl : j < rows.length := by rw [← EW.out]; exact hjW
          obtain ⟨b, o, a', cap', rfl, hb, h1, h2⟩ := hr.at j hjl
          have c1 : wr.cell? ⟨b, o + j, none⟩ = some (.slice a' (rows.getD j []).length cap') := (hbq.cell (by exact hb)).trans h1
          have hgl : g < (rows.getD j []).length := Nat.lt_of_lt_of_le hlt (HL.out j hjW)
          obtain ⟨x, hx⟩ : ∃ x, x = (rows.getD j []).getD g 0 := ⟨_, rfl⟩
          obtain ⟨b2, o2, rfl, hb2, h3⟩ := h2.pos (by rw [bs_length]; omega)
          have c2 : wr.cell? ⟨b2, o2 + g, none⟩ = some (.int .u8 x.toNat) := (hbq.cell (by exact hb2)).trans (by rw [hx]; exact h3 g _ (bs_get _ _ hgl))
          have HR := hid (show Z ++ (rows.take (j + 1)).map (fun r => r.getD g 0) = (Z ++ (rows.take j).map (fun r => r.getD g 0)) ++ [x] by
            rw [List.take_succ_eq_append_getElem hjl, List.map_append, List.append_assoc, hx]; simp [hjl])
          have hl1 : (Z ++ (rows.take j).map (fun r => r.getD g 0)).length ≤ 500 := by rw [List.length_append, HZL.out, List.length_map, List.length_take]; omega
          have hrl := HL2.out j
          have HO := hid hown2
          generalize Z ++ (rows.take j).map (fun r => r.getD g 0) = Y at *
          generalize (rows.getD j []).length = rl at *
          have hj1 : (j : Int) < (W : Int) := by omega
          have hg1 : (g : Int) < (rl : Int) := by omega
          clear h1 h2 h3 hx hown2 hr hown
          go_wp2_with (first | (at_builtin; refine wpList_append_own _ rfl (.tmp 19) (.tmp 24) 44 rfl w.heap.size 5 i0 (.int .u8 0) 1 1 Tryz.underlying44 hi hz0 hz1 hz2 rfl (by decide) _ _ (bs Y) rfl (HO.out.alloc _) ⟨wr.heap.size, 0, none⟩ 1 1 [.int .u8 x.toNat] rfl rfl (World.news_of_block (cs := #[.int .u8 x.toNat]) (t := 5) (fr := (0, 0)) (heap_alloc_new wr _)) (by simp [Value.oneCell']) (by unfold maxLen; omega) (by omega) (by simp; omega) ?_; intro v5 w5 hown5 hgrow5 _; have hb5 : Below w.heap.size w w5 := (hbq.alloc hzq _).grown hgrow5 (by simp; omega) (fun b hb => (HO.out.lt b hb).1); rw [← bs_snoc] at hown5; have HO5 := hid hown5; clear hown5 hgrow5) | fail)
          go_roundw
          case rel => exact ⟨j + 1, by omega, by go_num, by rw [HR.out, List.length_append]; exact HO5.out, hb5⟩
          case measure => simp [intOf]; omega
        · have hj1 : ¬ (j : Int) < (W : Int) := by omega
          have hjn : j = W := by omega
          have hfin : wr.ownsRow w.heap.size 5 1 u5 ((g + 1) * W) (bs (Cof.gather rows (g + 1))) := by
            rw [hjn, List.take_of_length_le (by rw [← EW.out]; exact Nat.le_refl _), HZ.out, ← gather_succ, Cof.gather_length, ← EW.out] at hown2
            exact hown2
          have HF := hid hfin
          clear hfin hjn hown2 hown
          go_wp2_with fail
          go_roundw
          case rel => exact ⟨g + 1, by omega, by go_num, HF.out, hbq⟩
          case measure => simp [intOf]; omega
    · have hg1 : ¬ (g : Int) < (G : Int) := by omega
      have hgn : g = G := by omega
      rw [hgn] at hown
      have HO := hid hown
      clear hown hgn
      go_wp2_with fail
      go_ret
      exact ⟨_, rfl, HO.out, hbel⟩
end Go.Proofs.YtcegdgmbponapabGreatDoor
