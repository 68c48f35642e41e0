/-
  A new object: the checks, and its pieces.
  The pieces of a value that can be put.
  Plain mathematics of Split: its pieces item by item; they are linear; what Disperse leaves as it is.
-/
import Derived.Test.YtcegdgmbponapabGreatDoorPart16
import Derived.Test.YtcegdgmbponapabGreatDoorPart00
namespace Go.Proofs.YtcegdgmbponapabGreatDoor
open Go.RowKit
attribute [local go_sem ↓] Go.wp_at_zero Go.wp_at_succ

set_option maxRecDepth 100000 in
set_option maxHeartbeats 1000000 in
theorem checkNew_ok (V key n B bc : Nat) (sp : Nat → Nat) (down : Bool) (v : Value) (rs : List RecV) (mode t l size : Nat) (nm : ByteArray) (w : World) (h : Rdy w V key n B bc sp) (hs : Sto w (sp 0) down v rs) (hno : hasName rs nm = false) (hfew : rs.length < 10)
    (hp : IsPlan mode t l n) (hz : size ≤ 60) (h1 : 1 ≤ nm.size) (h12 : nm.size ≤ 12) (hng : Cof.ngroups mode t l size ≤ 60) :
    Calls Tryz.prog 87 #[.pointer (some ⟨V, 0, none⟩), .agg #[.string nm, .int .i64 mode, .int .i64 t, .int .i64 l, .int .i64 size, .int .i64 0]] w fun e w' => e = .returned .nilIface ∧ Below w.heap.size w w' := by
  have hba := (Below.refl w.heap.size w).alloc (Nat.le_refl _) (.cells #[.string nm, .int .i64 mode, .int .i64 t, .int .i64 l, .int .i64 size, .int .i64 0] 65)
  have hR := h.keeps hba (Nat.le_refl _)
  have c5 := hR.c5
  have HC := hid (check_fine V _ c5)
  have HLB := hid (label_any V key n B 0 bc sp 0 mode t l size 0 nm _ hR.va)
  have HLN := hid (fun w' => llen_ok mode t l n 0 0 size nm w' hp hz h1 h12 hng)
  have HS := hid hs
  have HR := hid hR
  have HNO := hid hno
  have hVlt : ¬ V = w.heap.size := by have := h.va.lt; omega
  have hfew' : ¬ (10 : Int) ≤ (rs.length : Int) := by omega
  generalize Cof.ngroups mode t l size = ng at *
  clear h hs hno hp hz hR hfew
  go_enter Tryz.func87, Tryz.ntmps87
  go_wp2_with (first | (go_at_call 70; refine HC.out.mono ?_; rintro e w0 ⟨rfl, rfl⟩))
  refine HLB.out.mono ?_
  rintro e w1 ⟨rfl, hb1⟩
  have hb01 : Below w.heap.size w w1 := hba.trans (hb1.mono (by simp))
  have hz1 : w.heap.size < w1.heap.size := by have := hb1.size; simp at this; omega
  have e1 : ∀ o, w1.cell? ⟨w.heap.size, o, none⟩ = (w.alloc (.cells #[.string nm, .int .i64 mode, .int .i64 t, .int .i64 l, .int .i64 size, .int .i64 0] 65)).cell? ⟨w.heap.size, o, none⟩ := fun o => hb1.cell (by simp)
  have o1 : w1.cell? ⟨w.heap.size, 0, none⟩ = some (.string nm) := by rw [e1]; simp
  have HR1 := hid (HR.out.keeps hb1 (Nat.le_refl _))
  clear e1
  go_wp2_with fail
  refine (HLN.out w1).mono ?_
  rintro e w2 ⟨rfl, hb2⟩
  have hb02 := hb01.trans (hb2.mono hb01.size)
  have o2 : w2.cell? ⟨w.heap.size, 0, none⟩ = some (.string nm) := (hb2.cell hz1).trans o1
  have HR2 := hid (HR1.out.keeps hb2 (Nat.le_refl _))
  have HS2 := hid (HS.out.keeps (Spared.ofBelow (own := fun _ => False) hb02 (Nat.le_refl _)) (fun h => h) (fun _ _ h => h))
  obtain ⟨a, c, hv, hst⟩ := HS2.out.st
  have hz2 : w.heap.size < w2.heap.size := Nat.lt_of_lt_of_le hz1 hb2.size
  go_wp2_with fail
  refine (object_no V key n B bc sp down a c rs nm w2 HR2.out hst HNO.out).mono ?_
  rintro e w3 ⟨ev, rfl, hch, hb3⟩
  have hb03 := hb02.trans (hb3.mono hb02.size)
  have o3 : w3.cell? ⟨w.heap.size, 0, none⟩ = some (.string nm) := (hb3.cell hz2).trans o2
  obtain ⟨te, ve, rfl⟩ := hch.shape
  have HCH := hid hch
  have HR3 := hid (HR2.out.keeps hb3 (Nat.le_refl _))
  have HS3 := hid (HS2.out.keeps (Spared.ofBelow (own := fun _ => False) hb3 (Nat.le_refl _)) (fun h => h) (fun _ _ h => h))
  clear hch hst hv
  go_wp2_with fail
  have hba4 := (Below.refl w3.heap.size w3).alloc (Nat.le_refl _) (.cells #[.string ByteArray.empty, .int .i64 0, .int .i64 0, .int .i64 0, .int .i64 0, .int .i64 0] 65)
  refine (Is_any 9 9 _ 1 _ (HCH.out.keeps hba4 (Nat.le_refl _)) (by decide)).mono ?_
  rintro e w4 ⟨rfl, rfl⟩
  have HV := hid (vobjects_any V key n B bc sp down v rs _ (HR3.out.keeps hba4 (Nat.le_refl _)) (HS3.out.keeps (Spared.ofBelow (own := fun _ => False) hba4 (Nat.le_refl _)) (fun h => h) (fun _ _ h => h)))
  go_wp2_with fail
  refine HV.out.mono ?_
  rintro e w5 ⟨ov, rfl, hown, hb5⟩
  obtain ⟨oa, oc, rfl, _⟩ := owns_rd_size hown
  have hb05 := (hb03.trans (hba4.mono hb03.size)).trans (hb5.mono (by have := hb03.size; simp; omega))
  clear hown
  go_wp2_with fail
  go_ret
  exact ⟨rfl, hb05⟩
end Go.Proofs.YtcegdgmbponapabGreatDoor

namespace Go.Proofs.YtcegdgmbponapabGreatDoor
open Go.RowKit
attribute [local go_sem ↓] Go.wp_at_zero Go.wp_at_succ

set_option maxRecDepth 100000 in
set_option maxHeartbeats 1000000 in
theorem cut_ok (V key n B bc : Nat) (sp : Nat → Nat) (down : Bool) (v : Value) (rs : List RecV) (mode t l size : Nat) (nm vl tape : ByteArray) (w : World) (h : Rdy w V key n B bc sp) (hs : Sto w (sp 0) down v rs) (hno : hasName rs nm = false) (hfew : rs.length < 10)
    (hp : IsPlan mode t l n) (hz : size ≤ 60) (hvs : vl.size = size) (h1 : 1 ≤ nm.size) (h12 : nm.size ≤ 12) (hng : Cof.ngroups mode t l size ≤ 60) (htp : Cof.tsize mode t * Cof.ngroups mode t l size ≤ tape.size)
    (hup : ∀ i, i < n → w.cell? ⟨sp i, 0, none⟩ = some (.bool false)) (hlt : ∀ i, i < n → sp i < w.heap.size) :
    Calls Tryz.prog 58 #[.pointer (some ⟨V, 0, none⟩), .agg #[.string nm, .int .i64 mode, .int .i64 t, .int .i64 l, .int .i64 size, .int .i64 0], .string vl, .string tape] w fun e w' =>
      ∃ g, e = .returned (.tuple #[.slice (some ⟨g, 0, none⟩) n n, .nilIface]) ∧ RdRows w' (some ⟨g, 0, none⟩) (Cof.split vl.data.toList mode t l n tape.data.toList) ∧ Below w.heap.size w w' := by
  have hba := (Below.refl w.heap.size w).alloc (Nat.le_refl _) (.cells #[.string nm, .int .i64 mode, .int .i64 t, .int .i64 l, .int .i64 size, .int .i64 0] 65)
  have HCN := hid (checkNew_ok V key n B bc sp down v rs mode t l size nm _ (h.keeps hba (Nat.le_refl _)) (hs.keeps (Spared.ofBelow (own := fun _ => False) hba (Nat.le_refl _)) (fun h => h) (fun _ _ h => h)) hno hfew hp hz h1 h12 hng)
  have HSP := hid (fun w' => cutSplit_ok mode t l n vl tape w' hp (by omega) (by rw [hvs]; exact htp))
  have HR := hid h
  have HUP := hid hup
  have HLT := hid hlt
  generalize Cof.split vl.data.toList mode t l n tape.data.toList = rows at *
  clear h hs hno hfew hp hz hvs hng htp hup hlt h1 h12
  go_enter Tryz.func58, Tryz.ntmps58
  go_wp2_with fail
  refine HCN.out.mono ?_
  rintro e w1 ⟨rfl, hb1⟩
  have hb01 : Below w.heap.size w w1 := hba.trans (hb1.mono (by simp))
  have hz1 : w.heap.size < w1.heap.size := by have := hb1.size; simp at this; omega
  have e1 : ∀ o, w1.cell? ⟨w.heap.size, o, none⟩ = (w.alloc (.cells #[.string nm, .int .i64 mode, .int .i64 t, .int .i64 l, .int .i64 size, .int .i64 0] 65)).cell? ⟨w.heap.size, o, none⟩ := fun o => hb1.cell (by simp)
  have o1 : w1.cell? ⟨w.heap.size, 1, none⟩ = some (.int .i64 mode) := by rw [e1]; simp
  have o2 : w1.cell? ⟨w.heap.size, 2, none⟩ = some (.int .i64 t) := by rw [e1]; simp
  have o3 : w1.cell? ⟨w.heap.size, 3, none⟩ = some (.int .i64 l) := by rw [e1]; simp
  have HR1 := hid (HR.out.keeps hb01 (Nat.le_refl _))
  have c1 := HR1.out.va.c1
  have lV := HR1.out.va.lt
  have hn8 := HR1.out.n8
  clear e1
  go_wp2_with fail
  go_region_held3 (fun w' => w'.cell? ⟨V, 1, none⟩ = some (.slice (some ⟨B, 0, none⟩) n bc) ∧ w'.cell? ⟨w.heap.size, 1, none⟩ = some (.int .i64 mode) ∧ w'.cell? ⟨w.heap.size, 2, none⟩ = some (.int .i64 t) ∧ w'.cell? ⟨w.heap.size, 3, none⟩ = some (.int .i64 l)) (first | exact ⟨c1, o1, o2, o3⟩ | exact D2.out | go_keep)
    (first | (go_at_call 88; refine (HSP.out _).mono ?_; rintro e w2 ⟨g, rfl, hrows, hb2, _⟩; (have hb12 : Below w1.heap.size w1 w2 := (Below.refl w1.heap.size w1).drew.trans hb2); (have D2 := hid (show w2.cell? ⟨V, 1, none⟩ = some (.slice (some ⟨B, 0, none⟩) n bc) ∧ w2.cell? ⟨w.heap.size, 1, none⟩ = some (.int .i64 mode) ∧ w2.cell? ⟨w.heap.size, 2, none⟩ = some (.int .i64 t) ∧ w2.cell? ⟨w.heap.size, 3, none⟩ = some (.int .i64 l) from ⟨(hb12.cell lV).trans c1, (hb12.cell hz1).trans o1, (hb12.cell hz1).trans o2, (hb12.cell hz1).trans o3⟩)); (have HROWS := hid hrows); clear hrows))
  have hb02 := hb01.trans (hb12.mono hb01.size)
  have HAU := hid (allUp_yes V key n B 0 bc sp w2 (HR1.out.va.keeps hb12 (Nat.le_refl _)) hn8 (fun i hi => (hb02.cell (HLT.out i hi)).trans (HUP.out i hi)))
  go_wp2_with (go_at_call 63; refine HAU.out.mono ?_; rintro e w3 ⟨rfl, rfl⟩)
  go_ret2
  exact ⟨g, rfl, HROWS.out, hb02⟩
end Go.Proofs.YtcegdgmbponapabGreatDoor

namespace Cof

/-- The sum of products. -/
def csum (c y : Nat → UInt8) : Nat → UInt8
  | 0 => 0
  | k + 1 => csum c y k ^^^ mul (c k) (y k)

theorem csum_congr {c c' y y' : Nat → UInt8} {k : Nat} (h : ∀ j, j < k → c j = c' j ∧ y j = y' j) : csum c y k = csum c' y' k := by
  induction k with
  | zero => rfl
  | succ k ih =>
    rw [csum, csum, ih (fun j hj => h j (by omega)), (h k (by omega)).1, (h k (by omega)).2]

theorem csum_add (c y z : Nat → UInt8) (k : Nat) : csum c (fun j => y j ^^^ z j) k = csum c y k ^^^ csum c z k := by
  induction k with
  | zero => simp [csum]
  | succ k ih => rw [csum, csum, csum, ih, mul_add, x4]

theorem csum_one (y : Nat → UInt8) (i k : Nat) : csum (fun j => if j = i then 1 else 0) y k = if i < k then y i else 0 := by
  induction k with
  | zero => simp [csum]
  | succ k ih =>
    rw [csum, ih]
    by_cases h : k = i
    · subst h; simp [one_mul]
    · by_cases h2 : i < k
      · simp [h, h2, zero_mul, show i < k + 1 from by omega]
      · simp [h, h2, zero_mul, show ¬ i < k + 1 from by omega]

theorem sumRow_getD (a b : List UInt8) (i : Nat) : (sumRow a b).getD i 0 = a.getD i 0 ^^^ b.getD i 0 := by
  by_cases h : i < max a.length b.length
  · simp [sumRow, h]
  · have h1 : a[i]? = none := List.getElem?_eq_none (by omega)
    have h2 : b[i]? = none := List.getElem?_eq_none (by omega)
    have h3 : (sumRow a b)[i]? = none := List.getElem?_eq_none (by rw [length_sumRow]; omega)
    simp [h1, h2, h3]

theorem scaleRow_getD (r : List UInt8) (f : UInt8) (i : Nat) : (scaleRow r f).getD i 0 = mul f (r.getD i 0) := by
  by_cases h : i < r.length
  · simp [scaleRow, h]
  · have h1 : r[i]? = none := List.getElem?_eq_none (by omega)
    simp [scaleRow, h1, mul_zero]

theorem carryTo_getD (frm : List UInt8) (rows : List (List UInt8)) (x : UInt8) (k g : Nat) : (carryTo frm rows x k).getD g 0 = csum (fun j => polyAt (basis frm j) x) (fun j => (rows.getD j []).getD g 0) k := by
  induction k with
  | zero => simp [carryTo, csum]
  | succ k ih => rw [carryTo, sumRow_getD, scaleRow_getD, ih, csum]

theorem carryTo_length (frm : List UInt8) (rows : List (List UInt8)) (x : UInt8) (G k : Nat) (h : ∀ j, j < k → (rows.getD j []).length = G) (h0 : 0 < k) : (carryTo frm rows x k).length = G := by
  induction k with
  | zero => omega
  | succ k ih =>
    rw [carryTo, length_sumRow, length_scaleRow, h k (by omega)]
    rcases Nat.eq_zero_or_pos k with h1 | h1
    · subst h1; simp [carryTo]
    · rw [ih (fun j hj => h j (by omega)) h1]; simp

theorem filter_block (w j : Nat) (hj : j < w) (G r : Nat) (hr : r ≤ w) : (List.range (w * G + r)).filter (fun i => i % w == j) = (List.range G).map (fun g => g * w + j) ++ (if j < r then [G * w + j] else []) := by
  induction G generalizing r with
  | zero =>
    induction r with
    | zero => simp
    | succ r ih =>
      have e := ih (by omega)
      simp only [Nat.mul_zero, Nat.zero_add] at e ⊢
      rw [List.range_succ, List.filter_append, e]
      have : r % w = r := Nat.mod_eq_of_lt (by omega)
      by_cases h : r = j
      · subst h; simp [this]
      · by_cases h2 : j < r
        · simp [this, h, h2, show j < r + 1 from by omega]
        · simp [this, h, h2, show ¬ j < r + 1 from by omega]
  | succ G ihG =>
    have base : (List.range (w * (G + 1))).filter (fun i => i % w == j) = (List.range (G + 1)).map (fun g => g * w + j) := by
      have e := ihG w (Nat.le_refl _)
      rw [if_pos hj] at e
      rw [Nat.mul_succ, e, List.range_succ, List.map_append]; rfl
    induction r with
    | zero => simpa using base
    | succ r ih =>
      have e := ih (by omega)
      rw [← Nat.add_assoc, List.range_succ, List.filter_append, e]
      have : (w * (G + 1) + r) % w = r := by rw [Nat.mul_add_mod]; exact Nat.mod_eq_of_lt (by omega)
      by_cases h : r = j
      · subst h; simp [this, Nat.mul_comm]
      · by_cases h2 : j < r
        · simp [this, h, h2, show j < r + 1 from by omega]
        · simp [this, h, h2, show ¬ j < r + 1 from by omega]

theorem dealRow_eq (text : List UInt8) (w j G : Nat) (hj : j < w) : dealRow text w j (w * G) = (List.range G).map (fun g => text.getD (g * w + j) 0) := by
  have := filter_block w j hj G 0 (by omega)
  simp only [Nat.add_zero, Nat.not_lt_zero, if_false, List.append_nil] at this
  rw [dealRow, this, List.map_map]; rfl

theorem deal_row (text : List UInt8) (w G j : Nat) (hj : j < w) : (deal text w G).getD j [] = (List.range G).map (fun g => text.getD (g * w + j) 0) := by
  simp [deal, hj]; exact dealRow_eq text w j G hj

/-- The byte that the j-th known point of group g has. -/
def knownAt (v tape : List UInt8) (gs ts g j : Nat) : UInt8 := if j < gs then v.getD (g * gs + j) 0 else tape.getD (g * ts + (j - gs)) 0

theorem rows_at (v tape : List UInt8) (gs ts G j : Nat) (hj : j < gs + ts) : (deal v gs G ++ deal tape ts G).getD j [] = (List.range G).map (fun g => knownAt v tape gs ts g j) := by
  have l1 : (deal v gs G).length = gs := by simp [deal]
  by_cases h : j < gs
  · rw [List.getD_eq_getElem?_getD, List.getElem?_append_left (by omega), ← List.getD_eq_getElem?_getD, deal_row _ _ _ _ h]
    apply List.map_congr_left; intro g _; simp [knownAt, h]
  · rw [List.getD_eq_getElem?_getD, List.getElem?_append_right (by omega), ← List.getD_eq_getElem?_getD, l1, deal_row _ _ _ _ (by omega)]
    apply List.map_congr_left; intro g _; simp [knownAt, h]

/-- The coefficient by which store i's piece takes the j-th known byte. -/
def coef (mode t l i j : Nat) : UInt8 := polyAt (basis (groupAt mode t l ++ tapeAt mode t) j) (UInt8.ofNat (1 + i))

/-- A piece, by its bytes. -/
def pieceAt (v tape : List UInt8) (mode t l i g : Nat) : UInt8 :=
  csum (coef mode t l i) (knownAt v tape (gsize mode t l) (tsize mode t) g) (gsize mode t l + tsize mode t)

theorem split_row (v tape : List UInt8) (mode t l n i : Nat) (hi : i < n) (hg : 0 < gsize mode t l) (ht : tape.length = tsize mode t * ngroups mode t l v.length) :
    (split v mode t l n tape).getD i [] = (List.range (ngroups mode t l v.length)).map (pieceAt v tape mode t l i) := by
  have e : tape.take (tsize mode t * ngroups mode t l v.length) = tape := List.take_of_length_le (by omega)
  unfold split carry
  rw [e]
  have e2 : (run 1 n).map (fun x => carryTo (groupAt mode t l ++ tapeAt mode t) (deal v (gsize mode t l) (ngroups mode t l v.length) ++ deal tape (tsize mode t) (ngroups mode t l v.length)) x (deal v (gsize mode t l) (ngroups mode t l v.length) ++ deal tape (tsize mode t) (ngroups mode t l v.length)).length) = (List.range n).map (fun i => carryTo (groupAt mode t l ++ tapeAt mode t) (deal v (gsize mode t l) (ngroups mode t l v.length) ++ deal tape (tsize mode t) (ngroups mode t l v.length)) (UInt8.ofNat (1 + i)) (gsize mode t l + tsize mode t)) := by
    rw [run, List.map_map]; apply List.map_congr_left; intro i _; simp [deal]
  rw [e2, List.getD_eq_getElem?_getD, List.getElem?_map, List.getElem?_range hi]
  simp only [Option.map_some, Option.getD_some]
  apply List.ext_getElem?
  intro g
  have hl : (carryTo (groupAt mode t l ++ tapeAt mode t) (deal v (gsize mode t l) (ngroups mode t l v.length) ++ deal tape (tsize mode t) (ngroups mode t l v.length)) (UInt8.ofNat (1 + i)) (gsize mode t l + tsize mode t)).length = ngroups mode t l v.length := by
    apply carryTo_length
    · intro j hj; rw [rows_at _ _ _ _ _ _ hj]; simp
    · omega
  by_cases h : g < ngroups mode t l v.length
  · have h1 := carryTo_getD (groupAt mode t l ++ tapeAt mode t) (deal v (gsize mode t l) (ngroups mode t l v.length) ++ deal tape (tsize mode t) (ngroups mode t l v.length)) (UInt8.ofNat (1 + i)) (gsize mode t l + tsize mode t) g
    rw [List.getD_eq_getElem?_getD, List.getElem?_eq_getElem (by omega), Option.getD_some] at h1
    rw [List.getElem?_eq_getElem (by omega), h1, List.getElem?_map, List.getElem?_range h]
    simp only [Option.map_some, Option.some.injEq]
    unfold pieceAt
    apply csum_congr
    intro j hj
    refine ⟨rfl, ?_⟩
    rw [rows_at _ _ _ _ _ _ hj]; simp [h]
  · rw [List.getElem?_eq_none (by omega), List.getElem?_eq_none (by simp; omega)]

theorem piece_linear (v w a b : List UInt8) (xv xa : List UInt8) (mode t l i g : Nat) (hv : ∀ k, xv.getD k 0 = v.getD k 0 ^^^ w.getD k 0) (ha : ∀ k, xa.getD k 0 = a.getD k 0 ^^^ b.getD k 0) :
    pieceAt xv xa mode t l i g = pieceAt v a mode t l i g ^^^ pieceAt w b mode t l i g := by
  unfold pieceAt
  rw [← csum_add]
  apply csum_congr
  intro j _
  refine ⟨rfl, ?_⟩
  unfold knownAt
  split
  · exact hv _
  · exact ha _

theorem coef_disperse : (List.range 9).all (fun t => (List.range t).all fun i => (List.range t).all fun j => polyAt (basis (run 1 t) j) (UInt8.ofNat (1 + i)) == if j = i then 1 else 0) = true := by decide +kernel

theorem coef_one : (List.range 8).all (fun i => polyAt (basis [128] 0) (UInt8.ofNat (1 + i)) == 1) = true := by decide +kernel

theorem piece_disperse (v tape : List UInt8) (t l i g : Nat) (ht : t ≤ 8) (hi : i < t) : pieceAt v tape 1 t l i g = v.getD (g * t + i) 0 := by
  unfold pieceAt
  have h : csum (coef 1 t l i) (knownAt v tape (gsize 1 t l) (tsize 1 t) g) (gsize 1 t l + tsize 1 t) = csum (fun j => if j = i then 1 else 0) (knownAt v tape t 0 g) t := by
    show csum (coef 1 t l i) (knownAt v tape t 0 g) t = _
    apply csum_congr
    intro j hj
    refine ⟨?_, rfl⟩
    have h1 := List.all_eq_true.1 coef_disperse t (List.mem_range.2 (by omega))
    have h2 := List.all_eq_true.1 (List.all_eq_true.1 h1 i (List.mem_range.2 hi)) j (List.mem_range.2 hj)
    have h3 : coef 1 t l i j = polyAt (basis (run 1 t) j) (UInt8.ofNat (1 + i)) := by simp [coef, groupAt, tapeAt]
    rw [h3]
    exact beq_iff_eq.1 h2
  rw [h, csum_one, if_pos hi]
  simp [knownAt, hi]

theorem piece_one (v tape : List UInt8) (i g : Nat) (hi : i < 8) : pieceAt v tape 0 1 1 i g = v.getD g 0 := by
  have h3 : coef 0 1 1 i 0 = 1 := by
    have h2 := List.all_eq_true.1 coef_one i (List.mem_range.2 hi)
    have h3 : coef 0 1 1 i 0 = polyAt (basis [128] 0) (UInt8.ofNat (1 + i)) := by simp [coef, groupAt, tapeAt, run]
    rw [h3]
    exact beq_iff_eq.1 h2
  show csum (coef 0 1 1 i) (knownAt v tape 1 0 g) 1 = _
  rw [csum, csum, h3, one_mul]
  simp [knownAt]
end Cof
