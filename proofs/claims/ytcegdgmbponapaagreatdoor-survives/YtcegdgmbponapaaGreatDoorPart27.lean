/-
  Plain mathematics of Split: its pieces item by item; they are linear; what Disperse leaves as it is.
  A value is put into a vault where nothing lies.
-/
import Derived.Test.YtcegdgmbponapaaGreatDoorPart00
import Derived.Test.YtcegdgmbponapaaGreatDoorPart26
namespace Cof

/-- The sum of products. -/
def csum (c y : Nat → UInt8) : Nat → UInt8
  | 0 => 0
  | k + 1 => csum c y k ^^^ mul (c k) (y k)

theorem csum_congr {c c' y y' : Nat → UInt8} {k : Nat} (h : ∀ j, j < k → c j = c' j ∧ y j = y' j) : csum c y k = csum c' y' k := by
  induction k with
  | zero => rfl
  | succ k ih =>
    rw [csum, csum, ih (fun j hj => h j (by omega)), (h k (by omega)).1, (h k (by omega)).2]

theorem csum_add (c y z : Nat → UInt8) (k : Nat) : csum c (fun j => y j ^^^ z j) k = csum c y k ^^^ csum c z k := by
  induction k with
  | zero => simp [csum]
  | succ k ih => rw [csum, csum, csum, ih, mul_add, x4]

theorem csum_one (y : Nat → UInt8) (i k : Nat) : csum (fun j => if j = i then 1 else 0) y k = if i < k then y i else 0 := by
  induction k with
  | zero => simp [csum]
  | succ k ih =>
    rw [csum, ih]
    by_cases h : k = i
    · subst h; simp [one_mul]
    · by_cases h2 : i < k
      · simp [h, h2, zero_mul, show i < k + 1 from by omega]
      · simp [h, h2, zero_mul, show ¬ i < k + 1 from by omega]

theorem sumRow_getD (a b : List UInt8) (i : Nat) : (sumRow a b).getD i 0 = a.getD i 0 ^^^ b.getD i 0 := by
  by_cases h : i < max a.length b.length
  · simp [sumRow, h]
  · have h1 : a[i]? = none := List.getElem?_eq_none (by omega)
    have h2 : b[i]? = none := List.getElem?_eq_none (by omega)
    have h3 : (sumRow a b)[i]? = none := List.getElem?_eq_none (by rw [length_sumRow]; omega)
    simp [h1, h2, h3]

theorem scaleRow_getD (r : List UInt8) (f : UInt8) (i : Nat) : (scaleRow r f).getD i 0 = mul f (r.getD i 0) := by
  by_cases h : i < r.length
  · simp [scaleRow, h]
  · have h1 : r[i]? = none := List.getElem?_eq_none (by omega)
    simp [scaleRow, h1, mul_zero]

theorem carryTo_getD (frm : List UInt8) (rows : List (List UInt8)) (x : UInt8) (k g : Nat) : (carryTo frm rows x k).getD g 0 = csum (fun j => polyAt (basis frm j) x) (fun j => (rows.getD j []).getD g 0) k := by
  induction k with
  | zero => simp [carryTo, csum]
  | succ k ih => rw [carryTo, sumRow_getD, scaleRow_getD, ih, csum]

theorem carryTo_length (frm : List UInt8) (rows : List (List UInt8)) (x : UInt8) (G k : Nat) (h : ∀ j, j < k → (rows.getD j []).length = G) (h0 : 0 < k) : (carryTo frm rows x k).length = G := by
  induction k with
  | zero => omega
  | succ k ih =>
    rw [carryTo, length_sumRow, length_scaleRow, h k (by omega)]
    rcases Nat.eq_zero_or_pos k with h1 | h1
    · subst h1; simp [carryTo]
    · rw [ih (fun j hj => h j (by omega)) h1]; simp

theorem filter_block (w j : Nat) (hj : j < w) (G r : Nat) (hr : r ≤ w) : (List.range (w * G + r)).filter (fun i => i % w == j) = (List.range G).map (fun g => g * w + j) ++ (if j < r then [G * w + j] else []) := by
  induction G generalizing r with
  | zero =>
    induction r with
    | zero => simp
    | succ r ih =>
      have e := ih (by omega)
      simp only [Nat.mul_zero, Nat.zero_add] at e ⊢
      rw [List.range_succ, List.filter_append, e]
      have : r % w = r := Nat.mod_eq_of_lt (by omega)
      by_cases h : r = j
      · subst h; simp [this]
      · by_cases h2 : j < r
        · simp [this, h, h2, show j < r + 1 from by omega]
        · simp [this, h, h2, show ¬ j < r + 1 from by omega]
  | succ G ihG =>
    have base : (List.range (w * (G + 1))).filter (fun i => i % w == j) = (List.range (G + 1)).map (fun g => g * w + j) := by
      have e := ihG w (Nat.le_refl _)
      rw [if_pos hj] at e
      rw [Nat.mul_succ, e, List.range_succ, List.map_append]; rfl
    induction r with
    | zero => simpa using base
    | succ r ih =>
      have e := ih (by omega)
      rw [← Nat.add_assoc, List.range_succ, List.filter_append, e]
      have : (w * (G + 1) + r) % w = r := by rw [Nat.mul_add_mod]; exact Nat.mod_eq_of_lt (by omega)
      by_cases h : r = j
      · subst h; simp [this, Nat.mul_comm]
      · by_cases h2 : j < r
        · simp [this, h, h2, show j < r + 1 from by omega]
        · simp [this, h, h2, show ¬ j < r + 1 from by omega]

theorem dealRow_eq (text : List UInt8) (w j G : Nat) (hj : j < w) : dealRow text w j (w * G) = (List.range G).map (fun g => text.getD (g * w + j) 0) := by
  have := filter_block w j hj G 0 (by omega)
  simp only [Nat.add_zero, Nat.not_lt_zero, if_false, List.append_nil] at this
  rw [dealRow, this, List.map_map]; rfl

theorem deal_row (text : List UInt8) (w G j : Nat) (hj : j < w) : (deal text w G).getD j [] = (List.range G).map (fun g => text.getD (g * w + j) 0) := by
  simp [deal, hj]; exact dealRow_eq text w j G hj

/-- The byte that the j-th known point of group g has. -/
def knownAt (v tape : List UInt8) (gs ts g j : Nat) : UInt8 := if j < gs then v.getD (g * gs + j) 0 else tape.getD (g * ts + (j - gs)) 0

theorem rows_at (v tape : List UInt8) (gs ts G j : Nat) (hj : j < gs + ts) : (deal v gs G ++ deal tape ts G).getD j [] = (List.range G).map (fun g => knownAt v tape gs ts g j) := by
  have l1 : (deal v gs G).length = gs := by simp [deal]
  by_cases h : j < gs
  · rw [List.getD_eq_getElem?_getD, List.getElem?_append_left (by omega), ← List.getD_eq_getElem?_getD, deal_row _ _ _ _ h]
    apply List.map_congr_left; intro g _; simp [knownAt, h]
  · rw [List.getD_eq_getElem?_getD, List.getElem?_append_right (by omega), ← List.getD_eq_getElem?_getD, l1, deal_row _ _ _ _ (by omega)]
    apply List.map_congr_left; intro g _; simp [knownAt, h]

/-- The coefficient by which store i's piece takes the j-th known byte. -/
def coef (mode t l i j : Nat) : UInt8 := polyAt (basis (groupAt mode t l ++ tapeAt mode t) j) (UInt8.ofNat (1 + i))

/-- A piece, by its bytes. -/
def pieceAt (v tape : List UInt8) (mode t l i g : Nat) : UInt8 :=
  csum (coef mode t l i) (knownAt v tape (gsize mode t l) (tsize mode t) g) (gsize mode t l + tsize mode t)

theorem split_row (v tape : List UInt8) (mode t l n i : Nat) (hi : i < n) (hg : 0 < gsize mode t l) (ht : tape.length = tsize mode t * ngroups mode t l v.length) :
    (split v mode t l n tape).getD i [] = (List.range (ngroups mode t l v.length)).map (pieceAt v tape mode t l i) := by
  have e : tape.take (tsize mode t * ngroups mode t l v.length) = tape := List.take_of_length_le (by omega)
  unfold split carry
  rw [e]
  have e2 : (run 1 n).map (fun x => carryTo (groupAt mode t l ++ tapeAt mode t) (deal v (gsize mode t l) (ngroups mode t l v.length) ++ deal tape (tsize mode t) (ngroups mode t l v.length)) x (deal v (gsize mode t l) (ngroups mode t l v.length) ++ deal tape (tsize mode t) (ngroups mode t l v.length)).length) = (List.range n).map (fun i => carryTo (groupAt mode t l ++ tapeAt mode t) (deal v (gsize mode t l) (ngroups mode t l v.length) ++ deal tape (tsize mode t) (ngroups mode t l v.length)) (UInt8.ofNat (1 + i)) (gsize mode t l + tsize mode t)) := by
    rw [run, List.map_map]; apply List.map_congr_left; intro i _; simp [deal]
  rw [e2, List.getD_eq_getElem?_getD, List.getElem?_map, List.getElem?_range hi]
  simp only [Option.map_some, Option.getD_some]
  apply List.ext_getElem?
  intro g
  have hl : (carryTo (groupAt mode t l ++ tapeAt mode t) (deal v (gsize mode t l) (ngroups mode t l v.length) ++ deal tape (tsize mode t) (ngroups mode t l v.length)) (UInt8.ofNat (1 + i)) (gsize mode t l + tsize mode t)).length = ngroups mode t l v.length := by
    apply carryTo_length
    · intro j hj; rw [rows_at _ _ _ _ _ _ hj]; simp
    · omega
  by_cases h : g < ngroups mode t l v.length
  · have h1 := carryTo_getD (groupAt mode t l ++ tapeAt mode t) (deal v (gsize mode t l) (ngroups mode t l v.length) ++ deal tape (tsize mode t) (ngroups mode t l v.length)) (UInt8.ofNat (1 + i)) (gsize mode t l + tsize mode t) g
    rw [List.getD_eq_getElem?_getD, List.getElem?_eq_getElem (by omega), Option.getD_some] at h1
    rw [List.getElem?_eq_getElem (by omega), h1, List.getElem?_map, List.getElem?_range h]
    simp only [Option.map_some, Option.some.injEq]
    unfold pieceAt
    apply csum_congr
    intro j hj
    refine ⟨rfl, ?_⟩
    rw [rows_at _ _ _ _ _ _ hj]; simp [h]
  · rw [List.getElem?_eq_none (by omega), List.getElem?_eq_none (by simp; omega)]

theorem piece_linear (v w a b : List UInt8) (xv xa : List UInt8) (mode t l i g : Nat) (hv : ∀ k, xv.getD k 0 = v.getD k 0 ^^^ w.getD k 0) (ha : ∀ k, xa.getD k 0 = a.getD k 0 ^^^ b.getD k 0) :
    pieceAt xv xa mode t l i g = pieceAt v a mode t l i g ^^^ pieceAt w b mode t l i g := by
  unfold pieceAt
  rw [← csum_add]
  apply csum_congr
  intro j _
  refine ⟨rfl, ?_⟩
  unfold knownAt
  split
  · exact hv _
  · exact ha _

theorem coef_disperse : (List.range 9).all (fun t => (List.range t).all fun i => (List.range t).all fun j => polyAt (basis (run 1 t) j) (UInt8.ofNat (1 + i)) == if j = i then 1 else 0) = true := by decide +kernel

theorem coef_one : (List.range 8).all (fun i => polyAt (basis [128] 0) (UInt8.ofNat (1 + i)) == 1) = true := by decide +kernel

theorem piece_disperse (v tape : List UInt8) (t l i g : Nat) (ht : t ≤ 8) (hi : i < t) : pieceAt v tape 1 t l i g = v.getD (g * t + i) 0 := by
  unfold pieceAt
  have h : csum (coef 1 t l i) (knownAt v tape (gsize 1 t l) (tsize 1 t) g) (gsize 1 t l + tsize 1 t) = csum (fun j => if j = i then 1 else 0) (knownAt v tape t 0 g) t := by
    show csum (coef 1 t l i) (knownAt v tape t 0 g) t = _
    apply csum_congr
    intro j hj
    refine ⟨?_, rfl⟩
    have h1 := List.all_eq_true.1 coef_disperse t (List.mem_range.2 (by omega))
    have h2 := List.all_eq_true.1 (List.all_eq_true.1 h1 i (List.mem_range.2 hi)) j (List.mem_range.2 hj)
    have h3 : coef 1 t l i j = polyAt (basis (run 1 t) j) (UInt8.ofNat (1 + i)) := by simp [coef, groupAt, tapeAt]
    rw [h3]
    exact beq_iff_eq.1 h2
  rw [h, csum_one, if_pos hi]
  simp [knownAt, hi]

theorem piece_one (v tape : List UInt8) (i g : Nat) (hi : i < 8) : pieceAt v tape 0 1 1 i g = v.getD g 0 := by
  have h3 : coef 0 1 1 i 0 = 1 := by
    have h2 := List.all_eq_true.1 coef_one i (List.mem_range.2 hi)
    have h3 : coef 0 1 1 i 0 = polyAt (basis [128] 0) (UInt8.ofNat (1 + i)) := by simp [coef, groupAt, tapeAt, run]
    rw [h3]
    exact beq_iff_eq.1 h2
  show csum (coef 0 1 1 i) (knownAt v tape 1 0 g) 1 = _
  rw [csum, csum, h3, one_mul]
  simp [knownAt]
end Cof

namespace Go.Proofs.YtcegdgmbponapaaGreatDoor
open Go.RowKit
attribute [local go_sem ↓] Go.wp_at_zero Go.wp_at_succ

theorem setCell_self {w : World} {b k : Nat} {u : Value} (h : w.cell? ⟨b, k, none⟩ = some u) : w.setCell ⟨b, k, none⟩ u = w := by
  unfold World.cell? at h
  cases hb : w.heap[b]? with
  | none => simp [hb] at h
  | some o =>
    cases o with
    | cells c t f =>
      simp [hb] at h
      rw [setCell_eq_setRow w b k c t f u hb, show c.setIfInBounds k u = c from ?_, setRow_self w b c t f hb]
      apply Array.ext_getElem?
      intro j
      rw [Array.getElem?_setIfInBounds]
      split
      · rename_i hjk
        subst hjk
        split
        · exact h.symm
        · rename_i hs; rw [Array.getElem?_eq_none (by omega)]
      · rfl
    | _ => simp [hb] at h

/-- An object lies at every store of a vault. -/
structure One (w : World) (base V key n B bc : Nat) (sp : Nat → Nat) (down : Nat → Bool) (mode t l size epoch : Nat) (nm : ByteArray) (P : Nat → List UInt8) (vs : Nat → Value) (xs : Nat → RecV) : Prop where
  vt : ∃ done ahead, Vt w V key n B bc sp done false ahead false
  st : ∀ i, i < n → Sto w (sp i) (down i) (vs i) [xs i]
  ok : ∀ i, i < n → RecOk w base key mode t l n size epoch nm (P i) i (xs i)
  xi : ∀ i j, i < j → j < n → (xs i).blk ≠ (xs j).blk
  vi : ∀ i j, i < j → j < n → (vs i).ownBlock ≠ (vs j).ownBlock
  si : ∀ i j, i < j → j < n → sp i ≠ sp j
  bV : base ≤ V
  bB : base ≤ B
  bsp : ∀ i, i < n → base ≤ sp i
  bv : ∀ i, i < n → ∀ b, (vs i).ownBlock = some b → base ≤ b

/-- What holds behind t of the writes of a Put. -/
def PutJ (W n : Nat) (sp : Nat → Nat) (xs : List RecV) (t : Nat) (w : World) : Prop :=
  W ≤ w.heap.size ∧ ∃ vs : Nat → Value, (∀ i, i < t → Sto w (sp i) false (vs i) [xs[i]!] ∧ ∀ b, (vs i).ownBlock = some b → W ≤ b) ∧ (∀ i j, i < j → j < t → (vs i).ownBlock ≠ (vs j).ownBlock) ∧ ∀ i, t ≤ i → i < n → Sto w (sp i) false (.slice none 0 0) []

theorem PutJ.keeps {W V n : Nat} {sp : Nat → Nat} {xs : List RecV} {t : Nat} {w w' : World} (h : PutJ W n sp xs t w) (hs : Spared (fun b => b = V) w w') (hV : V < W) (hsp : ∀ i, i < n → sp i ≠ V) (htn : t ≤ n) : PutJ W n sp xs t w' := by
  obtain ⟨h0, vs, h1, h2, h3⟩ := h
  refine ⟨Nat.le_trans h0 hs.size, vs, fun i hi => ⟨(h1 i hi).1.keeps hs (hsp i (by omega)) (fun b hb e => by have := (h1 i hi).2 b hb; omega), (h1 i hi).2⟩, h2, fun i hi hin => (h3 i hi hin).keeps hs (hsp i hin) (fun b hb => by cases hb)⟩

theorem put_one (W n : Nat) (sp : Nat → Nat) (xs : List RecV) (i : Nat) (w : World) (h : PutJ W n sp xs i w) (hi : i < n) (hsi : ∀ i j, i < j → j < n → sp i ≠ sp j) (hlt : ∀ i, i < n → sp i < W) :
    Calls Tryz.prog 155 #[.pointer (some ⟨sp i, 0, none⟩), (xs[i]!).val] w fun e w' => e = .returned (.tuple #[]) ∧ PutJ W n sp xs (i + 1) w' ∧ Spared (fun b => ∃ i, i < n ∧ b = sp i) w w' := by
  obtain ⟨h0, vs, h1, h2, h3⟩ := h
  refine (add_first (sp i) false (xs[i]!) w (h3 i (Nat.le_refl _) hi)).mono ?_
  rintro e w' ⟨rfl, v', hst, hnew, hsp⟩
  have hne : ∀ j, j < n → j ≠ i → ¬ sp j = sp i := by
    intro j hj hji e
    rcases Nat.lt_or_gt_of_ne hji with h | h
    · exact hsi j i h hi e
    · exact hsi i j h hj e.symm
  refine ⟨rfl, ⟨Nat.le_trans h0 hsp.size, fun j => if j = i then v' else vs j, ?_, ?_, ?_⟩, hsp.mono fun b hb => ⟨i, hi, hb⟩⟩
  · intro j hj
    by_cases hji : j = i
    · subst hji
      simp only [if_true]
      exact ⟨hst, fun b hb => Nat.le_trans h0 (hnew b hb)⟩
    · simp only [hji, if_false]
      refine ⟨(h1 j (by omega)).1.keeps hsp (hne j (by omega) hji) (fun b hb e => ?_), (h1 j (by omega)).2⟩
      have := (h1 j (by omega)).2 b hb
      have := hlt i hi
      omega
  · intro a b hab hb
    by_cases hbi : b = i
    · subst hbi
      simp only [show ¬ a = b by omega, if_false, if_true]
      intro he
      cases ho : v'.ownBlock with
      | none =>
        rcases hst.row with ⟨_, ⟨_, hn⟩ | ⟨g, cap, cur, rfl, _⟩⟩
        · simp at hn
        · cases ho
      | some q =>
        rw [ho] at he
        have h4 := hnew q ho
        have h5 := ((h1 a hab).1.row.lt q he).2
        omega
    · simp only [show ¬ a = i by omega, hbi, if_false]
      exact h2 a b hab (by omega)
  · intro j hj hjn
    exact (h3 j (by omega) hjn).keeps hsp (hne j hjn (by omega)) (fun b hb => by cases hb)

theorem RecOk.mono {w : World} {base base' key mode t l n size epoch : Nat} {nm : ByteArray} {P : List UInt8} {j : Nat} {r : RecV} (h : RecOk w base key mode t l n size epoch nm P j r) (hb : base' ≤ base) : RecOk w base' key mode t l n size epoch nm P j r :=
  ⟨h.e, h.sn, World.ownsRow.mono h.own hb⟩

theorem split_len {mode t l n : Nat} (hp : IsPlan mode t l n) (v tape : List UInt8) (i : Nat) (hi : i < n) (htp : Cof.tsize mode t * Cof.ngroups mode t l v.length ≤ tape.length) : ((Cof.split v mode t l n tape).getD i []).length = Cof.ngroups mode t l v.length := by
  have e : Cof.split v mode t l n tape = Cof.split v mode t l n (tape.take (Cof.tsize mode t * Cof.ngroups mode t l v.length)) := by
    unfold Cof.split
    rw [List.take_take, Nat.min_self]
  have hg : 0 < Cof.gsize mode t l := by
    obtain ⟨_, _, h3, _, h5, _⟩ := hp
    unfold Cof.gsize
    split <;> omega
  rw [e, Cof.split_row v _ mode t l n i hi hg (by rw [List.length_take]; omega)]
  simp

set_option maxRecDepth 100000 in
set_option maxHeartbeats 2000000 in
theorem vput_ok (V key n B bc : Nat) (sp : Nat → Nat) (done ahead : Int) (mode t l size : Nat) (nm vl tape : ByteArray) (w : World) (hv : Vt w V key n B bc sp done false ahead false) (hst : ∀ i, i < n → Sto w (sp i) false (.slice none 0 0) []) (hsi : ∀ i j, i < j → j < n → sp i ≠ sp j)
    (hp : IsPlan mode t l n) (hz : size ≤ 60) (hvs : vl.size = size) (h1 : 1 ≤ nm.size) (h12 : nm.size ≤ 12) (hng : Cof.ngroups mode t l size ≤ 60) (htp : Cof.tsize mode t * Cof.ngroups mode t l size ≤ tape.size) (hk : key < 18446744073709551616) (base : Nat) (hbV : base ≤ V) (hbB : base ≤ B) (hbs : ∀ i, i < n → base ≤ sp i) :
    Calls Tryz.prog 75 #[.pointer (some ⟨V, 0, none⟩), .string nm, .string vl, .agg #[.int .i64 mode, .int .i64 t, .int .i64 l], .string tape] w fun e w' =>
      e = .returned .nilIface ∧ (∃ vs xs, One w' base V key n B bc sp (fun _ => false) mode t l size 0 nm (fun i => (Cof.split vl.data.toList mode t l n tape.data.toList).getD i []) vs xs ∧ (∀ i, i < n → ∀ b, (vs i).ownBlock = some b → w.heap.size ≤ b) ∧ ∀ i, i < n → ∀ b, (xs i).blk = some b → w.heap.size ≤ b) ∧ Spared (fun b => b = V ∨ ∃ i, i < n ∧ b = sp i) w w' := by
  have hn1 := hp.n1
  have hn8 := hp.n8
  have hba1 := (Below.refl w.heap.size w).alloc (Nat.le_refl _) (.cells #[.int .i64 mode, .int .i64 t, .int .i64 l] 29)
  have hba2 := hba1.alloc (by simp) (.cells #[.string nm, .int .i64 mode, .int .i64 t, .int .i64 l, .int .i64 size, .int .i64 0] 55)
  have hR := hv.rdy hn1 hn8
  have hS0 := (hst 0 (by omega)).keeps (Spared.ofBelow (own := fun _ => False) hba2 (Nat.le_refl _)) (fun h => h) (fun _ _ h => h)
  have HCUT := hid (cut_ok V key n B bc sp false (.slice none 0 0) [] mode t l size nm vl tape _ (hR.keeps hba2 (Nat.le_refl _)) hS0 (by simp [hasName]) (by decide) hp hz hvs h1 h12 hng htp (fun i hi => (hba2.cell (cells_lt (hst i hi).hp)).trans (by rw [cells_at (hst i hi).hp]; rfl)) (fun i hi => by have := cells_lt (hst i hi).hp; simp; omega))
  have HVS := hid hvs
  have hvz : (vl.size : Int) = (size : Int) := by omega
  go_enter Tryz.func75, Tryz.ntmps75
  go_wp2_with fail
  refine HCUT.out.mono ?_
  rintro e w3 ⟨g, rfl, hrows, hb3⟩
  have hb23 : Below w.heap.size w w3 := hba2.trans (hb3.mono (by simp; omega))
  have hz3 : w.heap.size + 1 < w3.heap.size := by have := hb3.size; simp at this; omega
  have e3 : ∀ o, w3.cell? ⟨w.heap.size + 1, o, none⟩ = _ := fun o => (bcell hb3).1 (w.heap.size + 1) o (by simp)
  have o3 : w3.cell? ⟨w.heap.size + 1, 0, none⟩ = some (.string nm) := by rw [e3, World.cell?_alloc_at _ _ _ _ (by simp)]; rfl
  have o31 : w3.cell? ⟨w.heap.size + 1, 1, none⟩ = some (.int .i64 mode) := by rw [e3, World.cell?_alloc_at _ _ _ _ (by simp)]; rfl
  have o32 : w3.cell? ⟨w.heap.size + 1, 2, none⟩ = some (.int .i64 t) := by rw [e3, World.cell?_alloc_at _ _ _ _ (by simp)]; rfl
  have o33 : w3.cell? ⟨w.heap.size + 1, 3, none⟩ = some (.int .i64 l) := by rw [e3, World.cell?_alloc_at _ _ _ _ (by simp)]; rfl
  have o34 : w3.cell? ⟨w.heap.size + 1, 4, none⟩ = some (.int .i64 size) := by rw [e3, World.cell?_alloc_at _ _ _ _ (by simp)]; rfl
  have o35 : w3.cell? ⟨w.heap.size + 1, 5, none⟩ = some (.int .i64 0) := by rw [e3, World.cell?_alloc_at _ _ _ _ (by simp)]; rfl
  have f3 : w3.frozen? ⟨w.heap.size + 1, 0, none⟩ = false := by rw [(bcell hb3).2 (w.heap.size + 1) 0 (by simp)]; simp
  have HROWS := hid hrows
  have HB23 := hid hb23
  clear hrows e3 hb3
  go_wp2_with fail
  refine (sclone_any nm w3 (by omega)).mono ?_
  rintro e w4 ⟨rfl, hb4⟩
  have hb04 := HB23.out.trans (hb4.mono HB23.out.size)
  have q0 : w4.cell? ⟨w.heap.size + 1, 0, none⟩ = some (.string nm) := (hb4.cell hz3).trans o3
  have q1 : w4.cell? ⟨w.heap.size + 1, 1, none⟩ = some (.int .i64 mode) := (hb4.cell hz3).trans o31
  have q2 : w4.cell? ⟨w.heap.size + 1, 2, none⟩ = some (.int .i64 t) := (hb4.cell hz3).trans o32
  have q3 : w4.cell? ⟨w.heap.size + 1, 3, none⟩ = some (.int .i64 l) := (hb4.cell hz3).trans o33
  have q4 : w4.cell? ⟨w.heap.size + 1, 4, none⟩ = some (.int .i64 size) := (hb4.cell hz3).trans o34
  have q5 : w4.cell? ⟨w.heap.size + 1, 5, none⟩ = some (.int .i64 0) := (hb4.cell hz3).trans o35
  have qf : w4.frozen? ⟨w.heap.size + 1, 0, none⟩ = false := (hb4.frozen hz3).trans f3
  have HQ0 := hid (setCell_self q0)
  have hz4 : w.heap.size + 1 < w4.heap.size := Nat.lt_of_lt_of_le hz3 hb4.size
  clear o3 o31 o32 o33 o34 o35 f3
  go_wp2_with fail
  rw [HQ0.out]
  have hR4 := hR.keeps hb04 (Nat.le_refl _)
  refine (records_any V key n B bc sp mode t l size 0 (Cof.ngroups mode t l size) nm (some ⟨g, 0, none⟩) n _ w4 hR4 hp (by omega) hz h12 hk (split_length _ _ _ _ _ _) (fun i hi => by rw [split_len hp _ _ i hi (by simpa [HVS.out] using htp)]; simp [HVS.out]) hng (HROWS.out.below hb4 (Nat.le_refl _))).mono ?_
  rintro e w5 ⟨gr, xs, rfl, hmd⟩
  have hb45 := hmd.bl
  have hb05 := hb04.trans (hb45.mono hb04.size)
  have hV5 := hv.keeps (Spared.ofBelow (own := fun _ => False) hb05 (Nat.le_refl _)) (fun h => h) (fun h => h)
  have hS5 : ∀ i, i < n → Sto w5 (sp i) false (.slice none 0 0) [] := fun i hi => (hst i hi).keeps (Spared.ofBelow (own := fun _ => False) hb05 (Nat.le_refl _)) (fun h => h) (fun _ _ h => h)
  have hrow := hmd.row
  rw [Nat.sub_self, List.replicate_zero, List.append_nil] at hrow
  obtain ⟨_, _, hgv, hgrd⟩ := owns_rd_size hrow
  have hgeq := (by simpa using hgv : (some (⟨gr, 0, none⟩ : Addr)) = _ ∧ _)
  rw [← hgeq.1] at hgrd
  have hgr := hrow.lt gr rfl
  have hVl : V < w.heap.size := cells_lt hv.hp
  have hsl : ∀ i, i < n → sp i < w.heap.size := fun i hi => cells_lt (hst i hi).hp
  have hsV : ∀ i, i < n → sp i ≠ V := by
    intro i hi e
    have h1 := (hst i hi).hp
    have h2 := hv.hp
    rw [e, h2] at h1
    cases h1
  obtain ⟨LB, hLB, _⟩ := hv.hb
  have hBl : B < w.heap.size := cells_lt hLB
  have hsB : ∀ i, i < n → sp i ≠ B := by
    intro i hi e
    have h1 := (hst i hi).hp
    rw [e, hLB] at h1
    cases h1
  have hBV : B ≠ V := by
    intro e
    have h2 := hv.hp
    rw [← e, hLB] at h2
    cases h2
  have hW := write_free 0 1 (stepFns 0) (fun t w' => t ≤ n ∧ PutJ w5.heap.size n sp xs t w') (fun b => ∃ i, i < n ∧ b = sp i) V key n B bc gr n sp xs done ahead w5 rfl (by decide) hn8 steps_at0
    (fun j f hf args w' => by
      cases j with
      | zero => cases hf; exact Tryz.callAdd args w'
      | succ j => cases hf)
    hV5 hmd.len hgrd hgr.2
    (fun w' hb => ⟨Nat.zero_le _, hb.size, fun _ => .slice none 0 0, fun i hi => by omega, fun i j _ hj => by omega, fun i _ hi => (hS5 i hi).keeps (Spared.ofBelow (own := fun _ => False) hb (Nat.le_refl _)) (fun h => h) (fun _ _ h => h)⟩)
    (fun t w1 w2 h hs => ⟨h.1, h.2.keeps hs (by have := hb05.size; omega) hsV h.1⟩)
    (fun b ⟨i, hi, e⟩ => by have := hsl i hi; have := hb05.size; omega)
    (fun ⟨i, hi, e⟩ => hsV i hi e.symm) (fun ⟨i, hi, e⟩ => hsB i hi e.symm) (fun ⟨i, hi, e⟩ => by have := hsl i hi; have := hb04.size; omega) (by have := hb04.size; omega) hBV
    (fun j i f w1 hf hi hJ _ => by
      cases j with
      | zero =>
        cases hf
        rw [Nat.zero_mul, Nat.zero_add] at hJ ⊢
        refine (put_one w5.heap.size n sp xs i w1 hJ.2 hi hsi (fun i hi => by have := hsl i hi; have := hb05.size; omega)).mono ?_
        rintro e w2 ⟨rfl, hj, hs⟩
        exact ⟨rfl, ⟨by omega, hj⟩, hs⟩
      | succ j => cases hf)
  have HW := hid hW
  clear hW
  go_wp2_with fail
  refine HW.out.mono ?_
  rintro e w6 ⟨rfl, hwrt⟩
  have HWR := hid hwrt
  clear hwrt
  go_wp2_with (go_at_call 78; refine (at_nil _ _).mono ?_; rintro e w7 ⟨rfl, rfl⟩)
  go_ret
  have hJ := HWR.out.j
  rw [Nat.one_mul] at hJ
  obtain ⟨_, _, vs, hj1, hj2, _⟩ := hJ
  have hsp6 := HWR.out.sp
  have hxb : ∀ i, i < n → ∀ b, (xs[i]!).blk = some b → w4.heap.size ≤ b := fun i hi b hb => ((hmd.ok i hi).own.lt b hb).1
  refine ⟨rfl, ⟨vs, fun i => xs[i]!, ⟨HWR.out.vt, fun i hi => (hj1 i hi).1, fun i hi => ?_, hmd.inj, hj2, hsi, hbV, hbB, hbs, fun i hi b hb => ?_⟩, fun i hi b hb => ?_, fun i hi b hb => ?_⟩, ?_⟩
  · refine ((hmd.ok i hi).keeps hsp6 (fun b hb ho => ?_)).mono (by have := hb04.size; omega)
    have := hxb i hi b hb
    have := hb04.size
    rcases ho with rfl | ⟨q, hq, rfl⟩
    · omega
    · have := hsl q hq; omega
  · have := (hj1 i hi).2 b hb
    have := hb05.size
    omega
  · have := (hj1 i hi).2 b hb
    have := hb05.size
    omega
  · have := hxb i hi b hb
    have := hb04.size
    omega
  · exact (Spared.ofBelow hb05 (Nat.le_refl _)).trans hsp6
end Go.Proofs.YtcegdgmbponapaaGreatDoor
