/-
  Are the objects of a list all the same?
  A region that draws its order, whose operations may write each into blocks of its own, and into slots that were read.
  append: where the row lies behind it.
-/
import Derived.Test.YtcegdgmbponapabGreatDoorPart17
import Derived.Test.YtcegdgmbponapabGreatDoorPart15
import Derived.Test.YtcegdgmbponapabGreatDoorPart09
namespace Go.Proofs.YtcegdgmbponapabGreatDoor
open Go.RowKit
attribute [local go_sem ↓] Go.wp_at_zero Go.wp_at_succ
attribute [local go_sem ↓] eqlOb neqOb

theorem Tryz.zeroO : ∀ w, (zeroValue 65).run Tryz.prog w = .ok (.agg #[.string ByteArray.empty, .int .i64 0, .int .i64 0, .int .i64 0, .int .i64 0, .int .i64 0]) w := by
  intro w; kernel_rfl

theorem allSame_not {L : List Ob} (j : Nat) (hj : j < L.length) (h : L[j]! ≠ L[0]!) : allSame L = false := by
  unfold allSame
  exact decide_eq_false fun h' => h (h'.2 j hj)

theorem allSame_not2 {L : List Ob} (j : Nat) (hj : j + 1 < L.length) (h : L[j + 1]! ≠ L[j]!) : allSame L = false := by
  unfold allSame
  exact decide_eq_false fun h' => h ((h'.2 (j + 1) hj).trans (h'.2 j (by omega)).symm)

theorem set_get (L : List Ob) (k j : Nat) (x : Ob) (hj : j < L.length) (hne : j ≠ k) : (L.set k x)[j]! = L[j]! := by
  rw [getElem!_pos (L.set k x) j (by simpa using hj), getElem!_pos L j hj, List.getElem_set, if_neg (Ne.symm hne)]

/-- An object laid over another of a row. -/
def setOb (w : World) (g o : Nat) (a : Ob) : World := (((((w.setCell ⟨g, o, none⟩ (.string a.name)).setCell ⟨g, o + 1, none⟩ (.int .i64 a.mode)).setCell ⟨g, o + 2, none⟩ (.int .i64 a.t)).setCell ⟨g, o + 3, none⟩ (.int .i64 a.l)).setCell ⟨g, o + 4, none⟩ (.int .i64 a.size)).setCell ⟨g, o + 5, none⟩ (.int .i64 a.epoch)

theorem setOb_owns {w : World} {base g n c k : Nat} {L : List Ob} (a : Ob) (h : w.ownsRow base 65 6 (.slice (some ⟨g, 0, none⟩) n c) n (obs L)) (hk : k < L.length) : (setOb w g (k * 6) a).ownsRow base 65 6 (.slice (some ⟨g, 0, none⟩) n c) n (obs (L.set k a)) := by
  rw [← obs_set6 L k a hk]
  unfold setOb
  have h1 := (h.stored (k * 6) (.string a.name)).1
  have h2 := (h1.stored (k * 6 + 1) (.int .i64 a.mode)).1
  have h3 := (h2.stored (k * 6 + 2) (.int .i64 a.t)).1
  have h4 := (h3.stored (k * 6 + 3) (.int .i64 a.l)).1
  have h5 := (h4.stored (k * 6 + 4) (.int .i64 a.size)).1
  exact (h5.stored (k * 6 + 5) (.int .i64 a.epoch)).1

theorem setOb_spared (w : World) (g o : Nat) (a : Ob) : Spared (fun b => b = g) w (setOb w g o a) := by
  unfold setOb
  have h1 := (Spared.refl (fun b => b = g) w).setCell (p := ⟨g, o, none⟩) rfl (.string a.name)
  have h2 := h1.setCell (p := ⟨g, o + 1, none⟩) rfl (.int .i64 a.mode)
  have h3 := h2.setCell (p := ⟨g, o + 2, none⟩) rfl (.int .i64 a.t)
  have h4 := h3.setCell (p := ⟨g, o + 3, none⟩) rfl (.int .i64 a.l)
  have h5 := h4.setCell (p := ⟨g, o + 4, none⟩) rfl (.int .i64 a.size)
  exact h5.setCell (p := ⟨g, o + 5, none⟩) rfl (.int .i64 a.epoch)

/-- What holds within the second loop of Compact. -/
structure CompJ (w : World) (base g n c k0 : Nat) (L : List Ob) (k k2 : Nat) (wr : World) : Prop where
  h1 : 1 ≤ k2
  h2 : k0 + k2 ≤ n
  h3 : k0 ≤ k
  h4 : k < k0 + k2
  row : ∃ L' : List Ob, L'.length = n ∧ wr.ownsRow base 65 6 (.slice (some ⟨g, 0, none⟩) n c) n (obs L') ∧ (k = 1 → L' = L ∧ ∀ j, j < k0 + k2 → L[j]! = L[0]!)
  no : 1 < k → allSame L = false
  bl : Spared (fun b => b = g) w wr

set_option maxRecDepth 100000 in
set_option maxHeartbeats 2000000 in
theorem compactO (base g n c : Nat) (L : List Ob) (w : World) (hL : L.length = n) (hn : n ≤ 10) (h : w.ownsRow base 65 6 (.slice (some ⟨g, 0, none⟩) n c) n (obs L)) :
    Calls Tryz.prog 178 #[.slice (some ⟨g, 0, none⟩) n c] w fun e w' => ∃ m, e = .returned (.slice (some ⟨g, 0, none⟩) m c) ∧ decide (m = 1) = allSame L ∧ Spared (fun b => b = g) w w' := by
  have HL := hid hL
  have HO := hid h
  have hcap : n ≤ c := by obtain ⟨_, _, _, _, h5, _⟩ := owns_split h; exact h5
  have hcm : c ≤ maxLen := by obtain ⟨_, _, _, _, _, h5, _⟩ := owns_split h; exact h5
  unfold maxLen at hcm
  clear h hL
  by_cases hn2 : n < 2
  · have hn2' : (n : Int) < 2 := by omega
    go_enter Tryz.func178, Tryz.ntmps178
    go_wp2_with fail
    go_ret
    refine ⟨n, rfl, ?_, Spared.refl _ _⟩
    unfold allSame
    rcases Nat.lt_or_ge n 1 with h | h
    · have : L = [] := List.length_eq_zero_iff.1 (by rw [HL.out]; omega)
      subst this
      rw [decide_eq_false (by omega), decide_eq_false (by simp)]
    · have h1 : n = 1 := by omega
      rw [decide_eq_true h1, decide_eq_true]
      refine ⟨fun e => by rw [e] at HL; have := HL.out; simp at this; omega, fun j hj => ?_⟩
      rw [HL.out] at hj
      rw [show j = 0 by omega]
  · have hn2' : ¬ (n : Int) < 2 := by omega
    go_enter Tryz.func178, Tryz.ntmps178
    go_wp2_with fail
    go_loopw [3] (fun u wr => ∃ (k : Nat), 1 ≤ k ∧ k ≤ n ∧ u = .int .i64 k ∧ (1 < k → allSame L = false) ∧ Below w.heap.size w wr) (fun u _ => n - (intOf u).toNat)
    case atStart => exact ⟨1, Nat.le_refl _, by omega, rfl, fun h => by omega, Below.refl _ _⟩
    case round =>
      obtain ⟨k, hk1, hkn, rfl, hno, hbr⟩ := hrel
      have HNO := hid hno
      clear hno
      by_cases hlt : k < n
      · have hor := owns_below_size HO.out hbr (Nat.le_refl _)
        obtain ⟨_, _, hv, hrd⟩ := owns_rd_size hor
        cases hv
        obtain ⟨_, x0, x1, x2, x3, x4, x5⟩ := ob_at hrd k (by rw [HL.out]; exact hlt)
        obtain ⟨_, y0, y1, y2, y3, y4, y5⟩ := ob_at hrd (k - 1) (by rw [HL.out]; omega)
        rw [Nat.zero_add] at x0 x1 x2 x3 x4 x5 y0 y1 y2 y3 y4 y5
        have hlt' : (k : Int) < (n : Int) := by omega
        obtain ⟨k1, hk1e⟩ : ∃ k1, k1 = k - 1 := ⟨_, rfl⟩
        rw [← hk1e] at y0 y1 y2 y3 y4 y5
        have hki : (k : Int) - 1 = (k1 : Int) := by omega
        have HK1 := hid hk1e
        have HOR := hid hor
        obtain ⟨x, hx⟩ : ∃ x, x = L[k]! := ⟨_, rfl⟩
        obtain ⟨y, hy⟩ : ∃ y, y = L[k1]! := ⟨_, rfl⟩
        rw [← hx] at x0 x1 x2 x3 x4 x5
        rw [← hy] at y0 y1 y2 y3 y4 y5
        have HX := hid hx
        have HY := hid hy
        have hk1n : (k1 : Int) < (n : Int) := by omega
        clear hk1e hx hy hor hrd
        by_cases hxy : x = y
        · have hd : decide (x = y) = true := decide_eq_true hxy
          have HXY := hid hxy
          clear hxy
          go_wp2_with fail
          go_region
          go_wp2_with fail
          have HB0 := hid hbr
          have HJ0 := hid (show CompJ w base g n c k L k 1 wr.drew from ⟨Nat.le_refl _, by omega, Nat.le_refl _, by omega, ⟨L, HL.out, HOR.out.drew, fun h => ⟨rfl, fun j hj => by
            have e1 := HK1.out
            rcases Nat.lt_or_ge j 1 with h' | h'
            · rw [show j = 0 by omega]
            · rw [show j = k by omega, ← HX.out, HXY.out, HY.out, show k1 = 0 by omega]⟩⟩, HNO.out, (Spared.ofBelow hbr (Nat.le_refl _)).drew⟩)
          have hsl : ¬ c = k := by omega
          go_loopw [3, 5] (fun u v wr => ∃ (k' k2 : Nat), u = .int .i64 k' ∧ v = .int .i64 k2 ∧ CompJ w base g n c k L k' k2 wr) (fun _ v _ => n - (intOf v).toNat)
          case atStart => exact ⟨k, 1, rfl, rfl, HJ0.out⟩
          case round =>
            obtain ⟨k', k2, rfl, rfl, hJ⟩ := hrel
            obtain ⟨h1, h2, h3, h4, ⟨L', hL', hrow, hone⟩, hno, hsp⟩ := hJ
            have HJ := hid (And.intro hone (And.intro hno hsp))
            clear hone hno hsp
            by_cases hlt2 : k + k2 < n
            · obtain ⟨_, _, hv, hrd⟩ := owns_rd_size hrow
              cases hv
              obtain ⟨_, a0, a1, a2, a3, a4, a5⟩ := ob_at hrd (k + k2) (by rw [hL']; exact hlt2)
              obtain ⟨k3, hk3⟩ : ∃ k3, k3 = k2 - 1 := ⟨_, rfl⟩
              obtain ⟨_, b0, b1, b2, b3, b4, b5⟩ := ob_at hrd (k + k3) (by rw [hL']; omega)
              obtain ⟨_, c0, c1, c2, c3, c4, c5⟩ := ob_at hrd k' (by rw [hL']; omega)
              rw [Nat.zero_add] at a0 a1 a2 a3 a4 a5 b0 b1 b2 b3 b4 b5 c0 c1 c2 c3 c4 c5
              rw [Nat.add_mul] at a0 a1 a2 a3 a4 a5 b0 b1 b2 b3 b4 b5
              obtain ⟨a, ha⟩ : ∃ a, a = L'[k + k2]! := ⟨_, rfl⟩
              obtain ⟨b, hb⟩ : ∃ b, b = L'[k + k3]! := ⟨_, rfl⟩
              rw [← ha] at a0 a1 a2 a3 a4 a5
              rw [← hb] at b0 b1 b2 b3 b4 b5
              obtain ⟨cc, hcc⟩ : ∃ cc, cc = L'[k']! := ⟨_, rfl⟩
              rw [← hcc] at c0 c1 c2 c3 c4 c5
              clear hcc
              have hki3 : (k2 : Int) - 1 = (k3 : Int) := by omega
              have hlt2' : (k2 : Int) < (n : Int) - (k : Int) := by omega
              have hlt2n : k2 < n - k := by omega
              have hk3n : k3 < n - k := by omega
              have hcast : ((n - k : Nat) : Int) = (n : Int) - (k : Int) := by omega
              have HA := hid ha
              have HB := hid hb
              have HK3 := hid hk3
              have HROW := hid hrow
              have hfz : ∀ o, wr.frozen? ⟨g, o, none⟩ = false := fun o => hrow.frozenAt o
              have hk'n : (k' : Int) < (n : Int) := by omega
              clear ha hb hk3 hrow hrd
              by_cases hab : a = b
              · have hd2 : decide (a = b) = true := decide_eq_true hab
                have HAB := hid hab
                clear hab
                go_wp2_with fail
                go_region
                go_wp2_with fail
                go_roundw
                case rel =>
                  refine ⟨k', k2 + 1, rfl, by go_num, ⟨by omega, by omega, h3, by omega, ⟨L', hL', HROW.out.drew, fun h => ?_⟩, HJ.out.2.1, HJ.out.2.2.drew⟩⟩
                  obtain ⟨hLL, hall⟩ := HJ.out.1 h
                  refine ⟨hLL, fun j hj => ?_⟩
                  rcases Nat.lt_or_ge j (k + k2) with h' | h'
                  · exact hall j h'
                  · have e3 := HK3.out
                    rw [show j = k + k2 by omega, ← hLL, ← HA.out, HAB.out, HB.out, hLL]
                    exact hall (k + k3) (by omega)
                case measure => simp [intOf]; omega
              · have hd2 : decide (a = b) = false := decide_eq_false hab
                have HAB := hid hab
                clear hab
                go_wp2_with fail
                go_region
                go_wp2_with fail
                have HSO := hid (setOb_owns a HROW.out (k := k') (by rw [hL']; omega)).drew
                have HSS := hid (HJ.out.2.2.trans (setOb_spared wr g (k' * 6) a)).drew
                unfold setOb at HSO HSS
                go_roundw
                case rel =>
                  refine ⟨k' + 1, k2 + 1, by go_num, by go_num, ⟨by omega, by omega, by omega, by omega, ⟨L'.set k' a, by rw [List.length_set]; exact hL', ?_, fun h => by omega⟩, fun _ => ?_, ?_⟩⟩
                  · exact HSO.out
                  · rcases Nat.lt_or_ge 1 k' with h | h
                    · exact HJ.out.2.1 h
                    · have hk1' : k' = 1 := by omega
                      obtain ⟨hLL, hall⟩ := HJ.out.1 hk1'
                      have e3 := HK3.out
                      refine allSame_not (k + k2) (by rw [HL.out]; exact hlt2) fun e => HAB.out ?_
                      rw [HA.out, HB.out, hLL, e, hall (k + k3) (by omega)]
                  · exact HSS.out
                case measure => simp [intOf]; omega
            · have hcast : ((n - k : Nat) : Int) = (n : Int) - (k : Int) := by omega
              have hk2e : (k2 : Int) = (n : Int) - (k : Int) := by omega
              have hk2n : k2 = n - k := by omega
              have hk'c : ¬ c = k' := by omega
              have hk'n : k' ≤ n := by omega
              have hnk : ((n - k' : Nat) : Int) = (n : Int) - (k' : Int) := by omega
              obtain ⟨tl, hh, hl1, hl2, hl3, _, _⟩ := owns_split hrow
              have hlen : (obs L' ++ tl).length = c * 6 := hl2
              have hclr : ∀ ty, (Builtin.clear_ #[80] ty #[.slice (some ⟨g, k' * 6, none⟩) (n - k') (c - k')]).run Tryz.prog wr = .ok (.tuple #[]) (wr.setCells g (k' * 6) (Builtin.zeroCells (Value.agg #[.string ByteArray.empty, .int .i64 0, .int .i64 0, .int .i64 0, .int .i64 0, .int .i64 0]).cells (n - k')).toList) := fun ty =>
                run_clear_any wr _ 65 ty _ Tryz.underlying80 Tryz.zeroO (by intro v hv; simp [Value.cells] at hv; rcases hv with rfl | rfl | rfl | rfl | rfl | rfl <;> rfl) g (k' * 6) (n - k') (c - k') (by omega) (fun j hj => block_some hh (by rw [hlen]; simp [Value.cells] at hj; omega)) (fun j _ => cells_fz hh)
              have HSP := hid (HJ.out.2.2.trans (setCells_spared (fun b => b = g) g rfl (Builtin.zeroCells (Value.agg #[.string ByteArray.empty, .int .i64 0, .int .i64 0, .int .i64 0, .int .i64 0, .int .i64 0]).cells (n - k')).toList (k' * 6) wr))
              have HRES := hid (show decide (k' = 1) = allSame L from by
                rcases Nat.lt_or_ge 1 k' with h | h
                · rw [HJ.out.2.1 h, decide_eq_false (by omega)]
                · have hk1' : k' = 1 := by omega
                  obtain ⟨_, hall⟩ := HJ.out.1 hk1'
                  rw [decide_eq_true hk1']
                  symm
                  unfold allSame
                  refine decide_eq_true ⟨fun e => ?_, fun j hj => hall j (by rw [HL.out] at hj; omega)⟩
                  have := HL.out
                  rw [e] at this
                  simp at this
                  omega)
              generalize (Builtin.zeroCells (Value.agg #[.string ByteArray.empty, .int .i64 0, .int .i64 0, .int .i64 0, .int .i64 0, .int .i64 0]).cells (n - k')).toList = zc at *
              clear hrow hh hl1 hl2 hlen
              go_wp2_with fail
              go_ret
              exact ⟨k', rfl, HRES.out, HSP.out⟩
        · have hd : decide (x = y) = false := decide_eq_false hxy
          have HXY := hid hxy
          clear hxy
          go_wp2_with fail
          go_region
          go_wp2_with fail
          go_roundw
          case rel => exact ⟨k + 1, by omega, by omega, by go_num, fun _ => allSame_not2 k1 (by have := HK1.out; rw [HL.out]; omega) (by have := HK1.out; rw [show k1 + 1 = k by omega, ← HX.out, ← HY.out]; exact HXY.out), hbr.drew⟩
          case measure => simp [intOf]; omega
      · have hkk : k = n := by omega
        subst hkk
        go_wp2
        go_ret
        exact ⟨k, rfl, by rw [HNO.out (by omega), decide_eq_false (by omega)], Spared.ofBelow hbr (Nat.le_refl _)⟩

set_option maxRecDepth 100000 in
/-- vault.same. -/
theorem same_any (a : Option Addr) (n c : Nat) (L : List Ob) (w : World) (hL : L.length = n) (hn0 : 0 < n) (hn : n ≤ 10) (hr : Rd w a (obs L)) :
    Calls Tryz.prog 153 #[.slice a n c] w fun e w' => e = .returned (.bool (allSame L)) ∧ Below w.heap.size w w' := by
  obtain ⟨b, o, rfl, _, _⟩ := hr.pos (by rw [obs_length, hL]; omega)
  have HC := hid (cloneO ⟨b, o, none⟩ n c L w rfl hL.symm hr hn)
  have HL := hid hL
  clear hr hL
  go_enter Tryz.func153, Tryz.ntmps153
  go_wp2_with fail
  refine HC.out.mono ?_
  rintro e w1 ⟨v, rfl, hown, hb1⟩
  obtain ⟨g, cap, rfl, hg1, hg2⟩ := row_some hown hn0
  have HCO := hid (compactO w.heap.size g n cap L w1 HL.out hn hown)
  clear hown
  go_wp2_with fail
  refine HCO.out.mono ?_
  rintro e w2 ⟨m, rfl, hm, hs2⟩
  have HB := hid (show Below w.heap.size w w2 from hb1.trans (hs2.below w.heap.size hb1.size (fun k hk => by omega)))
  have hmi : ((m : Int) == 1) = decide (m = 1) := by
    by_cases h : m = 1
    · simp [h]
    · have : ¬ (m : Int) = 1 := by omega
      simp [h, this]
  obtain ⟨q, hq⟩ : ∃ q, q = allSame L := ⟨_, rfl⟩
  rw [hm, ← hq] at hmi
  have HQ := hid hq
  clear hm hq
  go_wp2_with fail
  go_ret
  rw [← HQ.out]
  exact ⟨rfl, HB.out⟩
end Go.Proofs.YtcegdgmbponapabGreatDoor

namespace Go.Proofs.YtcegdgmbponapabGreatDoor
open Go.RowKit

section
variable {P : Program} {ops : Array Oper} {Q : Exit → Act → World → Prop}

/-- Does operation j wait for operation i? -/
def waits (ops : Array Oper) (j i : Nat) : Bool := match ops[j]? with
  | none => false
  | some o => o.after.any fun e => e.on == i && Region.binds .any e

/-- .. or for one that waits for it? -/
def waits2 (ops : Array Oper) (j i : Nat) : Bool := waits ops j i || match ops[j]? with
  | none => false
  | some o => o.after.any fun e => Region.binds .any e && waits ops e.on i

/-- Each operation, once. -/
def StepOwn (P : Program) (ops : Array Oper) (slot : Nat → Nat) (R : Nat → Act → World → Prop) (U : Nat → World → Prop) (O : Nat → Nat → Prop) (fixed : List (Nat × Value)) (reads : Nat → List Nat) (N : Nat) (w0 : World) : Nat → List Oper → Prop
  | _, [] => True
  | i, o :: rest => (∀ a w, a.tmps.size = N → Spared (fun b => ∃ i, O i b) w0 w → (∀ x ∈ fixed, (reads i).contains x.1 = true → a.tmps.getD x.1 undef = x.2) → (∀ e ∈ o.after, Region.binds .any e = true → R e.on a w ∧ ∀ j, waits ops e.on j = true → R j a w) → U i w → StepOk P o a w fun v w' => Spared (O i) w w' ∧ R i (a.put (some (slot i)) v) w') ∧ StepOwn P ops slot R U O fixed reads N w0 (i + 1) rest

theorem StepOwn.at {slot : Nat → Nat} {R : Nat → Act → World → Prop} {U : Nat → World → Prop} {O : Nat → Nat → Prop} {fixed : List (Nat × Value)} {reads : Nat → List Nat} {N : Nat} {w0 : World} : ∀ (l : List Oper) (k i : Nat) (o : Oper), StepOwn P ops slot R U O fixed reads N w0 k l → l[i]? = some o →
    ∀ a w, a.tmps.size = N → Spared (fun b => ∃ i, O i b) w0 w → (∀ x ∈ fixed, (reads (k + i)).contains x.1 = true → a.tmps.getD x.1 undef = x.2) → (∀ e ∈ o.after, Region.binds .any e = true → R e.on a w ∧ ∀ j, waits ops e.on j = true → R j a w) → U (k + i) w → StepOk P o a w fun v w' => Spared (O (k + i)) w w' ∧ R (k + i) (a.put (some (slot (k + i))) v) w' := by
  intro l
  induction l with
  | nil => intro k i o _ hi; simp at hi
  | cons x l ih =>
    intro k i o h hi
    cases i with
    | zero =>
      simp at hi
      subst hi
      exact h.1
    | succ i =>
      have := ih (k + 1) i o h.2 (by simpa using hi)
      rw [show k + (i + 1) = k + 1 + i by omega]
      exact this

def ownOk (ops : Array Oper) (slot : Nat → Nat) (N : Nat) (reads : Nat → List Nat) : Bool :=
  (List.range ops.size).all fun i => match ops[i]? with
    | none => true
    | some o => o.dst == some (slot i) && decide (slot i < N) && o.guard.isNone && o.after.all (fun e => !Region.binds .any e || decide (e.on < i)) && (List.range ops.size).all (fun j => slot i != slot j || i == j) && (List.range ops.size).all fun j => !(reads j).contains (slot i) || o.after.any fun e => e.on == j && Region.binds .any e

structure OI (ops : Array Oper) (slot : Nat → Nat) (R : Nat → Act → World → Prop) (U : Nat → World → Prop) (O : Nat → Nat → Prop) (fixed : List (Nat × Value)) (N : Nat) (w0 : World) (listed : Array Bool) (a : Act) (w : World) : Prop where
  df : a.defers = []
  sz : a.tmps.size = N
  sp : Spared (fun b => ∃ i, O i b) w0 w
  fx : ∀ x ∈ fixed, (∀ k, k < ops.size → slot k = x.1 → listed.getD k false = false) → a.tmps.getD x.1 undef = x.2
  cl : ∀ (i : Nat) (o : Oper), ops[i]? = some o → listed.getD i false = true → ∀ e ∈ o.after, Region.binds .any e = true → listed.getD e.on false = true
  rs : ∀ j, listed.getD j false = true → R j a w
  us : ∀ j, j < ops.size → listed.getD j false = false → U j w

theorem wp_region_own {id : Nat} {a : Act} {w : World} (hm : P.follows .mixedOrders = true) (slot : Nat → Nat) (R : Nat → Act → World → Prop) (U : Nat → World → Prop) (O : Nat → Nat → Prop) (fixed : List (Nat × Value)) (N : Nat) (reads : Nat → List Nat)
    (hok : ownOk ops slot N reads = true)
    (ha : a.defers = []) (hN : a.tmps.size = N) (hfx : ∀ p ∈ fixed, a.tmps.getD p.1 undef = p.2)
    (hU0 : ∀ j, j < ops.size → U j { w with drawn := w.drawn + 1 })
    (hR : ∀ i j a v w1 w2, j < ops.size → i ≠ j → waits2 ops j i = false → Spared (fun b => ∃ i, O i b) { w with drawn := w.drawn + 1 } w1 → R j a w1 → Spared (O i) w1 w2 → slot i ≠ slot j → R j (a.put (some (slot i)) v) w2)
    (hU : ∀ i j w1 w2, i ≠ j → Spared (fun b => ∃ i, O i b) { w with drawn := w.drawn + 1 } w1 → U j w1 → Spared (O i) w1 w2 → U j w2)
    (hstep : StepOwn P ops slot R U O fixed reads N { w with drawn := w.drawn + 1 } 0 ops.toList)
    (hend : ∀ a w', a.defers = [] → a.tmps.size = N → Spared (fun b => ∃ i, O i b) { w with drawn := w.drawn + 1 } w' → (∀ x ∈ fixed, (∀ k, k < ops.size → slot k ≠ x.1) → a.tmps.getD x.1 undef = x.2) → (∀ j, j < ops.size → R j a w') → Q .normal a w') :
    (Code.region id ops true).wp P Q a w := by
  unfold ownOk at hok
  rw [List.all_eq_true] at hok
  have hops : ∀ (i : Nat) (o : Oper), ops[i]? = some o → o.dst = some (slot i) ∧ slot i < N ∧ o.guard = none ∧ (∀ e ∈ o.after, Region.binds .any e = true → e.on < i) ∧ (∀ j, j < ops.size → slot i = slot j → i = j) ∧ (∀ j, j < ops.size → (reads j).contains (slot i) = true → ∃ e ∈ o.after, e.on = j ∧ Region.binds .any e = true) := by
    intro i o ho
    have his : i < ops.size := (Array.getElem?_eq_some_iff.1 ho).1
    have := hok i (List.mem_range.2 his)
    simp only [ho, Bool.and_eq_true] at this
    obtain ⟨⟨⟨⟨⟨h1, h2⟩, h3⟩, h5⟩, h6⟩, h7⟩ := this
    simp only [beq_iff_eq] at h1
    simp only [decide_eq_true_eq] at h2
    simp only [Option.isNone_iff_eq_none] at h3
    simp only [Array.all_eq_true_iff_forall_mem, Bool.or_eq_true, Bool.not_eq_true', decide_eq_true_eq] at h5
    simp only [List.all_eq_true, List.mem_range, Bool.or_eq_true, bne_iff_ne, ne_eq, beq_iff_eq] at h6
    refine ⟨h1, h2, h3, fun e he hbd => (h5 e he).elim (fun h => by rw [hbd] at h; cases h) (fun h => h), fun j hj he => ?_, fun j hj hno => ?_⟩
    · rcases h6 j hj with h | h
      · exact absurd he h
      · exact h
    · simp only [List.all_eq_true, List.mem_range] at h7
      have h8 := h7 j hj
      rw [hno] at h8
      simp only [Bool.not_true, Bool.false_or, Array.any_eq_true'] at h8
      obtain ⟨e, he, h9⟩ := h8
      simp only [Bool.and_eq_true, beq_iff_eq] at h9
      exact ⟨e, he, h9.1, h9.2⟩
  refine wp_region_any hm (wpAny_inv2 (OI ops slot R U O fixed N { w with drawn := w.drawn + 1 }) (fun i o e ho he hbd => (hops i o ho).2.2.2.1 e he hbd) ?_ ?_ ops.size _ _ _ (by simp) (by unfold todo; exact Nat.le_trans (List.countP_le_length ..) (by simp)) ⟨ha, hN, Spared.refl _ _, fun x hx _ => hfx x hx, fun i o ho hl => by simp [Array.getElem?_replicate] at hl; split at hl <;> simp at hl, fun j hj => by simp [Array.getElem?_replicate] at hj; split at hj <;> simp at hj, fun j hj _ => hU0 j hj⟩)
  · intro listed a w' i o hI hs ho hno hall
    obtain ⟨h1, h2, h3, h5, h6, h7⟩ := hops i o ho
    have his : i < ops.size := (Array.getElem?_eq_some_iff.1 ho).1
    have hcl : ∀ k j, listed.getD k false = true → waits ops k j = true → listed.getD j false = true := by
      intro k j hk' hwj
      unfold waits at hwj
      cases hok : ops[k]? with
      | none => rw [hok] at hwj; cases hwj
      | some ok =>
        rw [hok] at hwj
        simp only [Array.any_eq_true'] at hwj
        obtain ⟨e, he, h9⟩ := hwj
        simp only [Bool.and_eq_true, beq_iff_eq] at h9
        rw [← h9.1]
        exact hI.cl k ok hok hk' e he h9.2
    have hok := hstep.at (P := P) ops.toList 0 i o (by simpa using ho) a w' hI.sz hI.sp (fun x hx hkf => hI.fx x hx (fun k hk' hsk => by
      rw [Nat.zero_add] at hkf
      cases hlk : listed.getD k false with
      | false => rfl
      | true =>
        obtain ⟨_, _, _, _, _, h7'⟩ := hops k ops[k] (by simp [hk'])
        obtain ⟨e, he, hej, hbd⟩ := h7' i his (by rw [hsk]; exact hkf)
        have := hI.cl k ops[k] (by simp [hk']) hlk e he hbd
        rw [hej, hno] at this
        cases this)) (fun e he hbd => ⟨hI.rs _ (hall e he hbd), fun j hwj => hI.rs j (hcl e.on j (hall e he hbd) hwj)⟩) (by rw [Nat.zero_add]; exact hI.us i his hno)
    rw [Nat.zero_add] at hok
    unfold wpOp
    simp only [ho, Region.wanted, h3, if_true]
    refine .inl (hok.wp fun v w'' hp => ?_)
    rw [h1]
    refine ⟨hI.df, by simp [Act.put, hI.sz], hI.sp.trans (hp.1.mono fun b hb => ⟨i, hb⟩), fun x hx hnl => ?_, fun j o' ho' hl e he hbd => ?_, fun j hj => ?_, fun j hj hl => ?_⟩
    · have hne : slot i ≠ x.1 := fun e => by
        have := hnl i his e
        rw [show (listed.setIfInBounds i true).getD i false = true by simp [show i < listed.size by omega]] at this
        cases this
      have := hI.fx x hx (fun k hk' hsk => by
        have h9 := hnl k hk' hsk
        have hki : i ≠ k := fun e => hne (by rw [e]; exact hsk)
        rwa [getD_set_ne false hki] at h9)
      simp only [Act.put]
      rw [← this]
      simp [Array.getElem?_setIfInBounds_ne hne]
    · by_cases hei : i = e.on
      · rw [← hei]; simp [show i < listed.size by omega]
      · rw [getD_set_ne false hei]
        by_cases hji : i = j
        · subst hji
          rw [ho] at ho'
          cases ho'
          exact hall e he hbd
        · rw [getD_set_ne false hji] at hl
          exact hI.cl j o' ho' hl e he hbd
    · by_cases hji : i = j
      · subst hji
        exact hp.2
      · rw [getD_set_ne false hji] at hj
        have hjs : j < ops.size := by
          rcases Nat.lt_or_ge j listed.size with h | h
          · omega
          · simp [Array.getElem?_eq_none h] at hj
        have hsl : slot i ≠ slot j := fun e => hji (h6 j hjs e)
        have hw1 : ∀ k, listed.getD k false = true → waits ops k i = false := by
          intro k hk'
          cases hq : waits ops k i with
          | false => rfl
          | true => have := hcl k i hk' hq; rw [hno] at this; cases this
        have hwt : waits2 ops j i = false := by
          unfold waits2
          rw [hw1 j hj, Bool.false_or, show ops[j]? = some ops[j] by simp [hjs]]
          cases hq : (ops[j].after.any fun e => Region.binds .any e && waits ops e.on i) with
          | false => simp only [hq]
          | true =>
            rw [Array.any_eq_true'] at hq
            obtain ⟨e, he, h9⟩ := hq
            simp only [Bool.and_eq_true] at h9
            have := hw1 e.on (hI.cl j ops[j] (by simp [hjs]) hj e he h9.1)
            rw [h9.2] at this
            cases this
        exact hR i j a v _ _ hjs hji hwt hI.sp (hI.rs j hj) hp.1 hsl
    · have hji : i ≠ j := fun e => by
        subst e
        rw [show (listed.setIfInBounds i true).getD i false = true by simp [show i < listed.size by omega]] at hl
        cases hl
      rw [getD_set_ne false hji] at hl
      exact hU i j _ _ hji hI.sp (hI.us j hj hl) hp.1
  · intro listed a w' hI hall
    exact hend a w' hI.df hI.sz hI.sp (fun x hx hne => hI.fx x hx (fun k hk' e => absurd e (hne k hk'))) (fun j hj => hI.rs j (hall j hj))

theorem StepOk.weaken {o : Oper} {a : Act} {w : World} {post post' : Value → World → Prop} (h : StepOk P o a w post) (hp : ∀ v w', post v w' → post' v w') : StepOk P o a w post' := by
  rcases h with ⟨v, w', h1, h2⟩ | ⟨f, args, h1, h2⟩
  · exact .inl ⟨v, w', h1, hp v w' h2⟩
  · refine .inr ⟨f, args, h1, h2.mono ?_⟩
    rintro e w' ⟨v, rfl, h3⟩
    exact ⟨v, rfl, hp v w' h3⟩
end
end Go.Proofs.YtcegdgmbponapabGreatDoor

namespace Go.Proofs.YtcegdgmbponapabGreatDoor
open Go.RowKit

theorem run_append_at {P : Program} (w : World) (base : Nat) (t ty e : TypeId) (i : TypeInfo) (z : Value) (size bytes : Nat) (ht : P.underlying t = some (.slice e)) (hi : P.info? e = some i) (hz : i.zero = some z)
    (hsize : i.size = size) (hby : i.bytes = bytes) (hzs : z.cells.size = size) (hsz : 0 < size)
    (v : Value) (n : Nat) (xs : List Value) (hown : w.ownsRow base e size v n xs)
    (a : Addr) (m c : Nat) (news : List Value) (hl : news.length = m * size) (hnews : ∀ j u, news[j]? = some u → w.cell? (a.add j) = some u) (h1 : ∀ u ∈ news, u.oneCell' = true)
    (h63 : n + m ≤ maxLen) (hbytes : (n + m) * bytes ≤ 140737488355328) (hbase : base ≤ w.heap.size) (hm : 0 < m) :
    ∃ v' w', (Builtin.append_ #[t, t] ty #[v, .slice (some a) m c]).run P w = .ok v' w' ∧ w'.ownsRow base e size v' (n + m) (xs ++ news) ∧ w.grownBy w' v.ownBlock ∧
      (v'.ownBlock = v.ownBlock ∨ v'.ownBlock = some w.heap.size) := by
  obtain ⟨v', w', hr0, h2, h3, _⟩ := run_append_own (P := P) w base t ty e i z size bytes ht hi hz hsize hby hzs hsz v n xs hown a m c news hl hnews h1 h63 hbytes hbase
  refine ⟨v', w', hr0, h2, h3, ?_⟩
  subst hsize
  subst hby
  have hsmall : n + m ≤ 9223372036854775807 := by simp only [maxLen] at h63; omega
  rcases hown.2 with ⟨rfl, rfl⟩ | ⟨g, cap, cur, rfl, hbg, hg, hnc, hcm, hcs, htake⟩
  · have hr := run_append_nil (P := P) w t ty e i z ht hi hz a m c news hl hnews (by omega) (by omega) (by have hb := hbytes; simp only [Nat.zero_add] at hb; omega)
    rw [hr0] at hr
    cases hr
    exact .inr rfl
  · by_cases hroom : n + m ≤ cap
    · have hfit : n * i.size + news.length ≤ cur.size := by rw [hl, hcs, ← Nat.add_mul]; exact Nat.mul_le_mul_right _ hroom
      have hr := run_append_room (P := P) w t ty e i ht hi g n cap cur hg a m c news hl hnews h1 hroom hfit
      rw [hr0] at hr
      cases hr
      exact .inl rfl
    · have holds : ∀ j u, xs[j]? = some u → w.cell? ((⟨g, 0, none⟩ : Addr).add j) = some u := hown.cells (g := g) rfl
      have hr := run_append_grow (P := P) w t ty e i z ht hi hz ⟨g, 0, none⟩ n cap xs hown.1 holds a m c news hl hnews (by omega) (by omega) (growslice_fits (by omega) hbytes)
      rw [hr0] at hr
      cases hr
      exact .inr rfl

/-- The same, for a region that draws its order. -/
theorem append_step {P : Program} {o : Oper} {ac : Act} {w : World} {post : Value → World → Prop} (s x : Operand) (t : TypeId) (ho : o.op = .call { callee := .builtin .append, args := #[s, x], argTypes := #[t, t] })
    (base : Nat) (e : TypeId) (i : TypeInfo) (z : Value) (size bytes : Nat) (ht : P.underlying t = some (.slice e)) (hi : P.info? e = some i) (hz : i.zero = some z)
    (hsize : i.size = size) (hby : i.bytes = bytes) (hzs : z.cells.size = size) (hsz : 0 < size)
    (v : Value) (n : Nat) (xs : List Value) (hs : ac.eval s = v) (hown : w.ownsRow base e size v n xs)
    (a : Addr) (m c : Nat) (news : List Value) (hx : ac.eval x = .slice (some a) m c) (hl : news.length = m * size) (hnews : ∀ j u, news[j]? = some u → w.cell? (a.add j) = some u) (h1 : ∀ u ∈ news, u.oneCell' = true)
    (h63 : n + m ≤ maxLen) (hbytes : (n + m) * bytes ≤ 140737488355328) (hbase : base ≤ w.heap.size) (hm : 0 < m)
    (h : ∀ v' w', w'.ownsRow base e size v' (n + m) (xs ++ news) → w.grownBy w' v.ownBlock → (v'.ownBlock = v.ownBlock ∨ v'.ownBlock = some w.heap.size) → post v' w') : StepOk P o ac w post := by
  obtain ⟨v', w', hr, h2, h3, h4⟩ := run_append_at (P := P) w base t o.type e i z size bytes ht hi hz hsize hby hzs hsz v n xs hown a m c news hl hnews h1 h63 hbytes hbase hm
  refine .inl ⟨v', w', ?_, h v' w' h2 h3 h4⟩
  unfold execOp
  simp only [ho, resolve, invoke, builtin, Sem.run_bind, Sem.run_pure, Result.andThen_ok, List.map_toArray, List.map_cons, List.map_nil, hs, hx, hr]

theorem grown_spared {w w' : World} {v : Value} (h : w.grownBy w' v.ownBlock) : Spared (fun b => v.ownBlock = some b) w w' :=
  ⟨h.os, h.tape, h.output, h.size, fun k hk ho => h.block k hk fun e => ho e.symm⟩

theorem arr56 (t : Array Value) (h : t.size = 56) : ∃ u0 u1 u2 u3 u4 u5 u6 u7 u8 u9 u10 u11 u12 u13 u14 u15 u16 u17 u18 u19 u20 u21 u22 u23 u24 u25 u26 u27 u28 u29 u30 u31 u32 u33 u34 u35 u36 u37 u38 u39 u40 u41 u42 u43 u44 u45 u46 u47 u48 u49 u50 u51 u52 u53 u54 u55 : Value, t = #[u0, u1, u2, u3, u4, u5, u6, u7, u8, u9, u10, u11, u12, u13, u14, u15, u16, u17, u18, u19, u20, u21, u22, u23, u24, u25, u26, u27, u28, u29, u30, u31, u32, u33, u34, u35, u36, u37, u38, u39, u40, u41, u42, u43, u44, u45, u46, u47, u48, u49, u50, u51, u52, u53, u54, u55] := ⟨_, _, _, _, _, _, _, _, _, _, _, _, _, _, _, _, _, _, _, _, _, _, _, _, _, _, _, _, _, _, _, _, _, _, _, _, _, _, _, _, _, _, _, _, _, _, _, _, _, _, _, _, _, _, _, _, arr_of t 56 h⟩
end Go.Proofs.YtcegdgmbponapabGreatDoor
