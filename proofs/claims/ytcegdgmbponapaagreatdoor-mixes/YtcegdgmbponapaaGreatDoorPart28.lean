/-
  The shares of an object are made new.
  Two rows of bytes that the call makes side by side, and one more.
-/
import Derived.Test.YtcegdgmbponapaaGreatDoorPart27
import Derived.Test.YtcegdgmbponapaaGreatDoorPart03
namespace Go.Proofs.YtcegdgmbponapaaGreatDoor
open Go.RowKit
attribute [local go_sem ↓] Go.wp_at_zero Go.wp_at_succ

/-- A store's record behind t of the writes of a Refresh. -/
def refState (n : Nat) (xs : Nat → RecV) (ys : List RecV) (t q : Nat) : RecV :=
  if q + n < t then ((xs q).laid (ys[q]!)).turned else if q < t then (xs q).laid (ys[q]!) else xs q

def RefJ (n : Nat) (sp : Nat → Nat) (xs : Nat → RecV) (ys : List RecV) (vs : Nat → Value) (t : Nat) (w : World) : Prop :=
  ∀ q, q < n → Sto w (sp q) false (vs q) [refState n xs ys t q]

theorem refState_other {n : Nat} {xs : Nat → RecV} {ys : List RecV} {i q j : Nat} (hi : i < n) (hq : q < n) (hqi : q ≠ i) (hj : j = 0 ∨ j = 1) : refState n xs ys (j * n + i + 1) q = refState n xs ys (j * n + i) q := by
  have e1 : (q + n < j * n + i + 1) = (q + n < j * n + i) := by rcases hj with rfl | rfl <;> exact propext ⟨fun h => by omega, fun h => by omega⟩
  have e2 : (q < j * n + i + 1) = (q < j * n + i) := by rcases hj with rfl | rfl <;> exact propext ⟨fun h => by omega, fun h => by omega⟩
  unfold refState
  simp only [e1, e2]

theorem RefJ.step {n : Nat} {sp : Nat → Nat} {xs : Nat → RecV} {ys : List RecV} {vs : Nat → Value} {i j : Nat} {w w' : World} (h : RefJ n sp xs ys vs (j * n + i) w) (hi : i < n) (hj : j = 0 ∨ j = 1) (hvi : ∀ i j, i < j → j < n → (vs i).ownBlock ≠ (vs j).ownBlock)
    (hs : Sto w' (sp i) false (vs i) [refState n xs ys (j * n + i + 1) i]) (hsp : Spared (fun b => (vs i).ownBlock = some b) w w') : RefJ n sp xs ys vs (j * n + i + 1) w' := by
  intro q hq
  by_cases hqi : q = i
  · subst hqi; exact hs
  · rw [refState_other hi hq hqi hj]
    refine (h q hq).keeps hsp (fun e => row_ne (h i hi).row (h q hq).hp (by decide) e) (fun b hb e => ?_)
    rcases Nat.lt_or_gt_of_ne hqi with hlt | hlt
    · exact hvi q i hlt hi (by rw [hb, e])
    · exact hvi i q hlt hq (by rw [hb, e])

theorem ref_lay (n : Nat) (sp : Nat → Nat) (xs : Nat → RecV) (ys : List RecV) (vs : Nat → Value) (i : Nat) (w : World) (h : RefJ n sp xs ys vs (0 * n + i) w) (hi : i < n) (hvi : ∀ i j, i < j → j < n → (vs i).ownBlock ≠ (vs j).ownBlock) (hnm : (xs i).name = (ys[i]!).name) :
    Calls Tryz.prog 183 #[.pointer (some ⟨sp i, 0, none⟩), (ys[i]!).val] w fun e w' => e = .returned (.tuple #[]) ∧ RefJ n sp xs ys vs (0 * n + i + 1) w' ∧ Spared (fun b => ∃ q, q < n ∧ (vs q).ownBlock = some b) w w' := by
  have h0 : refState n xs ys (0 * n + i) i = xs i := by unfold refState; rw [if_neg (by omega), if_neg (by omega)]
  have h1 : refState n xs ys (0 * n + i + 1) i = (xs i).laid (ys[i]!) := by unfold refState; rw [if_neg (by omega), if_pos (by omega)]
  have hst := h i hi
  rw [h0] at hst
  refine (lay_yes (sp i) false (vs i) [xs i] (ys[i]!) w hst (has_one hnm)).mono ?_
  rintro e w' ⟨rfl, hs, hsp⟩
  rw [pos_one hnm] at hs
  refine ⟨rfl, h.step hi (.inl rfl) hvi (by rw [h1]; exact hs) hsp, hsp.mono fun b hb => ⟨i, hi, hb⟩⟩

theorem ref_turn (n : Nat) (sp : Nat → Nat) (xs : Nat → RecV) (ys : List RecV) (vs : Nat → Value) (i : Nat) (ad : Addr) (w : World) (h : RefJ n sp xs ys vs (1 * n + i) w) (hi : i < n) (hvi : ∀ i j, i < j → j < n → (vs i).ownBlock ≠ (vs j).ownBlock) (hnm : (xs i).name = (ys[i]!).name) (had : (ys[i]!).sa = some ad) (he : (xs i).epoch ≤ 1000) :
    Calls Tryz.prog 184 #[.pointer (some ⟨sp i, 0, none⟩), (ys[i]!).val] w fun e w' => e = .returned (.tuple #[]) ∧ RefJ n sp xs ys vs (1 * n + i + 1) w' ∧ Spared (fun b => ∃ q, q < n ∧ (vs q).ownBlock = some b) w w' := by
  have h0 : refState n xs ys (1 * n + i) i = (xs i).laid (ys[i]!) := by unfold refState; rw [if_neg (by omega), if_pos (by omega)]
  have h1 : refState n xs ys (1 * n + i + 1) i = ((xs i).laid (ys[i]!)).turned := by unfold refState; rw [if_pos (by omega)]
  have hst := h i hi
  rw [h0] at hst
  have hnm' : ((xs i).laid (ys[i]!)).name = (ys[i]!).name := hnm
  refine (turn_yes (sp i) false (vs i) [(xs i).laid (ys[i]!)] (ys[i]!) ((xs i).laid (ys[i]!)) ad w hst (has_one hnm') (by rw [pos_one hnm']; rfl) had he).mono ?_
  rintro e w' ⟨rfl, hs, hsp⟩
  rw [pos_one hnm'] at hs
  refine ⟨rfl, h.step hi (.inr rfl) hvi (by rw [h1]; exact hs) hsp, hsp.mono fun b hb => ⟨i, hi, hb⟩⟩

theorem RefJ.keeps {n : Nat} {sp : Nat → Nat} {xs : Nat → RecV} {ys : List RecV} {vs : Nat → Value} {t V : Nat} {w w' : World} (h : RefJ n sp xs ys vs t w) (hs : Spared (fun b => b = V) w w') (hsV : ∀ i, i < n → sp i ≠ V) (hvV : ∀ i, i < n → (vs i).ownBlock ≠ some V) : RefJ n sp xs ys vs t w' :=
  fun q hq => (h q hq).keeps hs (hsV q hq) (fun b hb e => hvV q hq (by rw [hb, e]))

theorem Rd.setCell_kind {w : World} {a : Option Addr} {cs : List Value} {g k : Nat} (hr : Rd w a cs) (u : Value) (h : ∀ (q : Nat) (v : Value), cs[q]? = some v → ∀ j, w.cell? ⟨g, j, none⟩ ≠ some v) : Rd (w.setCell ⟨g, k, none⟩ u) a cs := by
  intro j v hj
  obtain ⟨b, o, h1, h2, h3⟩ := hr j v hj
  have hbg : b ≠ g := by rintro rfl; exact h j v hj _ h3
  refine ⟨b, o, h1, by simpa using h2, ?_⟩
  rw [World.cell?_of_block (Below.heap_setCell w ⟨g, k, none⟩ u b hbg)]; exact h3

theorem RdRows.setCell_kind {w : World} {a : Option Addr} {rows : List (List UInt8)} {g k : Nat} (hr : RdRows w a rows) (u : Value) (h1 : ∀ j a n c, w.cell? ⟨g, j, none⟩ ≠ some (.slice a n c)) (h2 : ∀ j x, w.cell? ⟨g, j, none⟩ ≠ some (.int .u8 x)) : RdRows (w.setCell ⟨g, k, none⟩ u) a rows := by
  obtain ⟨vs, e1, e2, e3⟩ := hr
  refine ⟨vs, e1, e2.setCell_kind u (fun q v hq j hc => ?_), fun j v hj => ?_⟩
  · obtain ⟨a', c', rfl, _⟩ := e3 q v hq
    exact h1 j _ _ _ hc
  · obtain ⟨a', c', e4, e5⟩ := e3 j v hj
    refine ⟨a', c', e4, e5.setCell_kind u (fun q x hq i hc => ?_)⟩
    have hm := List.mem_of_getElem? hq
    simp only [bs, List.mem_map] at hm
    obtain ⟨y, _, rfl⟩ := hm
    exact h2 i _ hc

set_option maxRecDepth 100000 in
set_option maxHeartbeats 2000000 in
theorem vrefresh_ok (base V key n B bc : Nat) (sp : Nat → Nat) (mode t l size epoch : Nat) (nm tape : ByteArray) (P : Nat → List UInt8) (vs : Nat → Value) (xs : Nat → RecV) (w : World) (h : One w base V key n B bc sp (fun _ => false) mode t l size epoch nm P vs xs)
    (hp : IsPlan mode t l n) (hm0 : mode = 0) (he : epoch < 100) (hz : size ≤ 60) (hn1 : 1 ≤ nm.size) (hnm : nm.size ≤ 12) (hk : key < 18446744073709551616) (hl : Cof.ngroups mode t l size ≤ 60) (hP : ∀ i, i < n → (P i).length = Cof.ngroups mode t l size) (htp : Cof.tsize mode t * Cof.ngroups mode t l size ≤ tape.size) (hT : Tab w) :
    Calls Tryz.prog 45 #[.pointer (some ⟨V, 0, none⟩), .string nm, .string tape] w fun e w' =>
      e = .returned .nilIface ∧ (∃ ys, One w' base V key n B bc sp (fun _ => false) mode t l size (epoch + 1) nm (fun i => Cof.sumRow (P i) ((Cof.split (List.replicate size 0) mode t l n tape.data.toList).getD i [])) vs ys ∧ ∀ i, i < n → ∀ b, (ys i).blk = some b → w.heap.size ≤ b) ∧ Spared (fun b => b = V ∨ ∃ i, i < n ∧ (vs i).ownBlock = some b) w w' := by
  have hn1' := hp.n1
  have hn8 := hp.n8
  obtain ⟨done, ahead, hvt⟩ := h.vt
  have hR := hvt.rdy hn1' hn8
  obtain ⟨a0, c0', _, hst0⟩ := (h.st 0 (by omega)).st
  have hok0 := h.ok 0 (by omega)
  have HOBJ := hid (object_yes V key n B bc sp false a0 c0' [xs 0] (xs 0) nm w hR hst0 (has_one hok0.e.1) (by rw [pos_one hok0.e.1]; rfl))
  rw [hok0.e.1, hok0.e.2.1, hok0.e.2.2.1, hok0.e.2.2.2.1, hok0.e.2.2.2.2.1, hok0.e.2.2.2.2.2.1] at HOBJ
  have HM0 := hid hm0
  have HH := hid h
  have HP := hid hp
  have HRR := hid hR
  have HPL := hid hP
  have HTP := hid htp
  have HT := hid hT
  have HVT := hid hvt
  have hVl := cells_lt hvt.hp
  clear h hp hm0 hR hP htp hT hst0 hok0 hvt
  go_enter Tryz.func45, Tryz.ntmps45
  go_wp2_with fail
  refine HOBJ.out.mono ?_
  rintro e w1 ⟨rfl, hb1⟩
  have hba := hb1.alloc hb1.size (.cells #[.string nm, .int .i64 mode, .int .i64 t, .int .i64 l, .int .i64 size, .int .i64 epoch] 55)
  obtain ⟨w2, hw2⟩ : ∃ w2, w2 = w1.alloc (.cells #[.string nm, .int .i64 mode, .int .i64 t, .int .i64 l, .int .i64 size, .int .i64 epoch] 55) := ⟨_, rfl⟩
  have HOB := hid (show w2.heap[w1.heap.size]? = some (.cells #[.string nm, .int .i64 mode, .int .i64 t, .int .i64 l, .int .i64 size, .int .i64 epoch] 55) by rw [hw2]; exact alloc_at _ _)
  have hl1 : w1.heap.size < w2.heap.size := cells_lt HOB.out
  rw [← hw2] at hba
  have hkeep : ∀ w', Below w.heap.size w w' → One w' base V key n B bc sp (fun _ => false) mode t l size epoch nm P vs xs := by
    intro w' hb
    have hs : Spared (fun _ => False) w w' := Spared.ofBelow hb (Nat.le_refl _)
    exact ⟨⟨done, ahead, HVT.out.keeps hs (fun h => h) (fun h => h)⟩, fun i hi => (HH.out.st i hi).keeps hs (fun h => h) (fun _ _ h => h), fun i hi => (HH.out.ok i hi).keeps hs (fun _ _ h => h), HH.out.xi, HH.out.vi, HH.out.si, HH.out.bV, HH.out.bB, HH.out.bsp, HH.out.bv⟩
  have HREF := hid (refreshed_ok base V key n B bc sp mode t l size epoch nm tape P vs xs w2 (hkeep w2 hba) HP.out HM0.out he hz hn1 hnm hk hl HPL.out HTP.out (HT.out.keeps hba (Nat.le_refl _)))
  have HKEEP := hid hkeep
  clear hkeep
  go_wp2_with fail
  rw [← hw2]
  refine HREF.out.mono ?_
  rintro e w3 ⟨g, rfl, hrows, hb3⟩
  have hb03 := hba.trans (hb3.mono hba.size)
  have HOB3 := hid (show w3.heap[w1.heap.size]? = some (.cells #[.string nm, .int .i64 mode, .int .i64 t, .int .i64 l, .int .i64 size, .int .i64 epoch] 55) from (hb3.block _ hl1).trans HOB.out)
  have o5 : w3.cell? ⟨w1.heap.size, 5, none⟩ = some (.int .i64 epoch) := by rw [cells_at HOB3.out]; rfl
  have f5 : w3.frozen? ⟨w1.heap.size, 5, none⟩ = false := cells_fz HOB3.out
  have o0 : w3.cell? ⟨w1.heap.size, 0, none⟩ = some (.string nm) := by rw [cells_at HOB3.out]; rfl
  have o1 : w3.cell? ⟨w1.heap.size, 1, none⟩ = some (.int .i64 mode) := by rw [cells_at HOB3.out]; rfl
  have o2 : w3.cell? ⟨w1.heap.size, 2, none⟩ = some (.int .i64 t) := by rw [cells_at HOB3.out]; rfl
  have o3 : w3.cell? ⟨w1.heap.size, 3, none⟩ = some (.int .i64 l) := by rw [cells_at HOB3.out]; rfl
  have o4 : w3.cell? ⟨w1.heap.size, 4, none⟩ = some (.int .i64 size) := by rw [cells_at HOB3.out]; rfl
  have hkind : ∀ j v, w3.cell? ⟨w1.heap.size, j, none⟩ = some v → v = .string nm ∨ ∃ x : Int, v = .int .i64 x := by
    intro j v hj
    rw [cells_at HOB3.out] at hj
    rcases show j = 0 ∨ j = 1 ∨ j = 2 ∨ j = 3 ∨ j = 4 ∨ j = 5 ∨ 6 ≤ j by omega with rfl | rfl | rfl | rfl | rfl | rfl | h6
    · simp at hj; exact .inl hj.symm
    · simp at hj; exact .inr ⟨_, hj.symm⟩
    · simp at hj; exact .inr ⟨_, hj.symm⟩
    · simp at hj; exact .inr ⟨_, hj.symm⟩
    · simp at hj; exact .inr ⟨_, hj.symm⟩
    · simp at hj; exact .inr ⟨_, hj.symm⟩
    · rw [Array.getElem?_eq_none (by simpa using h6)] at hj; cases hj
  have HR4 := hid (hrows.setCell_kind (g := w1.heap.size) (k := 5) (.int .i64 ((epoch : Int) + 1)) (fun j a n c hc => by rcases hkind j _ hc with h | ⟨x, h⟩ <;> cases h) (fun j x hc => by rcases hkind j _ hc with h | ⟨x, h⟩ <;> cases h))
  have hb04 : Below w.heap.size w (w3.setCell ⟨w1.heap.size, 5, none⟩ (.int .i64 ((epoch : Int) + 1))) := hb03.setCell (p := ⟨w1.heap.size, 5, none⟩) hb1.size _
  obtain ⟨rows, hrw⟩ : ∃ rows, rows = (List.range n).map fun i => Cof.sumRow (P i) ((Cof.split (List.replicate size 0) mode t l n tape.data.toList).getD i []) := ⟨_, rfl⟩
  rw [← hrw] at HR4
  have hrl : rows.length = n := by rw [hrw]; simp
  have hrg : ∀ i, i < n → rows.getD i [] = Cof.sumRow (P i) ((Cof.split (List.replicate size 0) mode t l n tape.data.toList).getD i []) := fun i hi => by rw [hrw]; simp [hi]
  have hrn : ∀ i, i < n → (rows.getD i []).length = Cof.ngroups mode t l size := fun i hi => by
    rw [hrg i hi, Cof.length_sumRow, HPL.out i hi, split_len HP.out _ _ i hi (by simpa using HTP.out)]
    simp
  have HRG := hid hrg
  have HREC := hid (records_any V key n B bc sp mode t l size (epoch + 1) (Cof.ngroups mode t l size) nm (some ⟨g, 0, none⟩) n rows (w3.setCell ⟨w1.heap.size, 5, none⟩ (.int .i64 ((epoch : Int) + 1))) (HRR.out.keeps hb04 (Nat.le_refl _)) HP.out (by omega) hz hnm hk hrl hrn hl HR4.out)
  obtain ⟨w4, hw4⟩ : ∃ w4, w4 = w3.setCell ⟨w1.heap.size, 5, none⟩ (.int .i64 ((epoch : Int) + 1)) := ⟨_, rfl⟩
  clear hrows hkind hrw hrl hrg hrn HR4
  go_wp2_with fail
  rw [← hw4] at HREC hb04 ⊢
  refine HREC.out.mono ?_
  rintro e w5 ⟨gr, ys, rfl, hmd⟩
  have hb45 := hmd.bl
  have hb05 := hb04.trans (hb45.mono hb04.size)
  have h5 := HKEEP.out w5 hb05
  have hV5 := HVT.out.keeps (Spared.ofBelow (own := fun _ => False) hb05 (Nat.le_refl _)) (fun h => h) (fun h => h)
  have hrow := hmd.row
  rw [Nat.sub_self, List.replicate_zero, List.append_nil] at hrow
  obtain ⟨_, _, hgv, hgrd⟩ := owns_rd_size hrow
  have hgeq := (by simpa using hgv : (some (⟨gr, 0, none⟩ : Addr)) = _ ∧ _)
  rw [← hgeq.1] at hgrd
  have hgr := hrow.lt gr rfl
  have hvl : ∀ i, i < n → ∀ b, (vs i).ownBlock = some b → b < w.heap.size := fun i hi b hb => ((HH.out.st i hi).row.lt b hb).2
  have hvV : ∀ i, i < n → (vs i).ownBlock ≠ some V := fun i hi => row_ne (HH.out.st i hi).row HVT.out.hp (by decide)
  have hsV : ∀ i, i < n → sp i ≠ V := by
    intro i hi e
    have h1 := (HH.out.st i hi).hp
    have h2 := HVT.out.hp
    rw [e, h2] at h1
    cases h1
  obtain ⟨LB, hLB, _⟩ := HVT.out.hb
  have hvB : ∀ i, i < n → (vs i).ownBlock ≠ some B := fun i hi => row_ne (HH.out.st i hi).row hLB (by decide)
  have hBV : B ≠ V := by
    intro e
    have h2 := HVT.out.hp
    rw [← e, hLB] at h2
    cases h2
  have hnmx : ∀ i, i < n → (xs i).name = (ys[i]!).name := fun i hi => (HH.out.ok i hi).e.1.trans (hmd.ok i hi).e.1.symm
  have had : ∀ i, i < n → ∃ ad, (ys[i]!).sa = some ad := by
    intro i hi
    obtain ⟨sg, cap, hsl, _, _⟩ := row_some (hmd.ok i hi).own (by rw [(hmd.ok i hi).sn]; omega)
    have := (by simpa using hsl : (ys[i]!).sa = some ⟨sg, 0, none⟩ ∧ _)
    exact ⟨_, this.1⟩
  have hW := write_free 2 2 (stepFns 2) (fun t w' => RefJ n sp xs ys vs t w') (fun b => ∃ i, i < n ∧ (vs i).ownBlock = some b) V key n B bc gr n sp ys done ahead w5 rfl (by decide) hn8 steps_at2
    (fun j f hf args w' => by
      cases j with
      | zero => cases hf; exact Tryz.callLay args w'
      | succ j => cases j with
        | zero => cases hf; exact Tryz.callTurn args w'
        | succ j => cases hf)
    hV5 hmd.len hgrd hgr.2
    (fun w' hb q hq => by
      have e : refState n xs ys 0 q = xs q := by unfold refState; rw [if_neg (by omega), if_neg (by omega)]
      rw [e]
      exact (h5.st q hq).keeps (Spared.ofBelow (own := fun _ => False) hb (Nat.le_refl _)) (fun h => h) (fun _ _ h => h))
    (fun t w1 w2 h hs => h.keeps hs hsV hvV)
    (fun b ⟨i, hi, e⟩ => by have := hvl i hi b e; have := hb05.size; omega)
    (fun ⟨i, hi, e⟩ => hvV i hi e) (fun ⟨i, hi, e⟩ => hvB i hi e) (fun ⟨i, hi, e⟩ => by have := hvl i hi _ e; have := hb04.size; omega) (by have := hb04.size; omega) hBV
    (fun j i f w1 hf hi hJ _ => by
      cases j with
      | zero =>
        cases hf
        exact ref_lay n sp xs ys vs i w1 hJ hi HH.out.vi (hnmx i hi)
      | succ j => cases j with
        | zero =>
          cases hf
          obtain ⟨ad, hadi⟩ := had i hi
          exact ref_turn n sp xs ys vs i ad w1 hJ hi HH.out.vi (hnmx i hi) hadi (by rw [(HH.out.ok i hi).e.2.2.2.2.2.1]; omega)
        | succ j => cases hf)
  have HW := hid hW
  clear hW
  go_wp2_with fail
  refine HW.out.mono ?_
  rintro e w6 ⟨rfl, hwrt⟩
  have HWR := hid hwrt
  clear hwrt
  go_wp2_with (go_at_call 78; refine (at_nil _ _).mono ?_; rintro e w7 ⟨rfl, rfl⟩)
  go_ret
  have hJ := HWR.out.j
  have hsp6 := HWR.out.sp
  have hend : ∀ q, q < n → refState n xs ys (2 * n) q = ys[q]! := by
    intro q hq
    unfold refState
    rw [if_pos (by omega)]
    have e1 := (HH.out.ok q hq).e
    have e2 := (hmd.ok q hq).e
    generalize xs q = x at e1 ⊢
    generalize ys[q]! = y at e2 ⊢
    obtain ⟨x1, x2, x3, x4, x5, x6, x7, x8, x9, x10, x11, x12⟩ := x
    obtain ⟨y1, y2, y3, y4, y5, y6, y7, y8, y9, y10, y11, y12⟩ := y
    simp only [RecV.laid, RecV.turned] at e1 e2 ⊢
    obtain ⟨rfl, rfl, rfl, rfl, rfl, rfl, rfl, rfl, rfl⟩ := e1
    obtain ⟨rfl, rfl, rfl, rfl, rfl, rfl, rfl, rfl, rfl⟩ := e2
    rfl
  have hxb : ∀ i, i < n → ∀ b, (ys[i]!).blk = some b → w4.heap.size ≤ b := fun i hi b hb => ((hmd.ok i hi).own.lt b hb).1
  have hbw : base ≤ w.heap.size := Nat.le_of_lt (Nat.lt_of_le_of_lt HH.out.bV hVl)
  refine ⟨rfl, ⟨fun i => ys[i]!, ⟨HWR.out.vt, fun i hi => by have := hJ i hi; rwa [hend i hi] at this, fun i hi => ?_, hmd.inj, HH.out.vi, HH.out.si, HH.out.bV, HH.out.bB, HH.out.bsp, HH.out.bv⟩, fun i hi b hb => ?_⟩, ?_⟩
  · have hk := ((hmd.ok i hi).keeps hsp6 (fun b hb ho => by
      have h1 := hxb i hi b hb
      have h2 := hb04.size
      rcases ho with rfl | ⟨q, hq, hqb⟩
      · omega
      · have := hvl q hq b hqb; omega)).mono (by have := hb04.size; omega : base ≤ w4.heap.size)
    rw [HRG.out i hi] at hk
    exact hk
  · have := hxb i hi b hb
    have := hb04.size
    omega
  · exact (Spared.ofBelow hb05 (Nat.le_refl _)).trans hsp6
end Go.Proofs.YtcegdgmbponapaaGreatDoor

namespace Go.Proofs.YtcegdgmbponapaaGreatDoor
open Go.RowKit

/-- Two values lie apart. -/
def Apart (v v' : Value) : Prop := v.ownBlock = none ∨ v'.ownBlock = none ∨ v.ownBlock ≠ v'.ownBlock

theorem Apart.symm {v v' : Value} (h : Apart v v') : Apart v' v := by
  rcases h with h | h | h
  · exact .inr (.inl h)
  · exact .inl h
  · exact .inr (.inr (fun e => h e.symm))

theorem Apart.left {v v' : Value} (h : Apart v v') : v.ownBlock = none ∨ v.ownBlock ≠ v'.ownBlock := by
  rcases h with h | h | h
  · exact .inl h
  · cases hv : v.ownBlock with
    | none => exact .inl rfl
    | some b => exact .inr (by rw [h]; simp)
  · exact .inr h

/-- Two owned rows of bytes, apart. -/
structure Two (w : World) (base : Nat) (vx vy : Value) (xs ys : List UInt8) : Prop where
  x : w.ownsRow base 5 1 vx xs.length (bs xs)
  y : w.ownsRow base 5 1 vy ys.length (bs ys)
  apart : Apart vx vy

theorem Two.symm {w : World} {base : Nat} {vx vy : Value} {xs ys : List UInt8} (h : Two w base vx vy xs ys) : Two w base vy vx ys xs := ⟨h.y, h.x, h.apart.symm⟩

theorem Two.start (w : World) (base : Nat) : Two w base (.slice none 0 0) (.slice none 0 0) [] [] := ⟨World.ownsRow_nil _ _ _ _, World.ownsRow_nil _ _ _ _, .inl rfl⟩

theorem bs_snoc (xs : List UInt8) (a : UInt8) : bs (xs ++ [a]) = bs xs ++ [.int .u8 a.toNat] := by simp [bs]

/-- Behind an append to the first. -/
theorem Two.push {w W w1 : World} {base g cap : Nat} {vx vy : Value} {xs ys : List UInt8} {a : UInt8} (h : Two w base vx vy xs ys) (hb : Below w.heap.size w W)
    (hown : w1.ownsRow base 5 1 (.slice (some ⟨g, 0, none⟩) (xs.length + 1) cap) (xs.length + 1) (bs xs ++ [.int .u8 a.toNat])) (hgrow : W.grownBy w1 vx.ownBlock) (hat : vx.ownBlock = some g ∨ g = W.heap.size) :
    Two w1 base (.slice (some ⟨g, 0, none⟩) (xs.length + 1) cap) vy (xs ++ [a]) ys := by
  refine ⟨by rw [bs_snoc, List.length_append]; exact hown, (owns_below h.y hb (Nat.le_refl _)).kept hgrow h.apart.symm.left, ?_⟩
  rcases hat with hat | hat
  · rcases h.apart with h1 | h1 | h1
    · rw [h1] at hat; cases hat
    · exact .inr (.inl h1)
    · exact .inr (.inr (by rw [hat] at h1; exact h1))
  · cases hy : vy.ownBlock with
    | none => exact .inr (.inl hy)
    | some b =>
      refine .inr (.inr ?_)
      rw [hy]
      intro e
      have e' : g = b := by simpa [Value.ownBlock] using e
      have := (h.y.lt b hy).2
      have := hb.size
      omega

theorem Two.len {w : World} {base : Nat} {vx vy : Value} {xs ys : List UInt8} (h : Two w base vx vy xs ys) : (∃ a c, vx = .slice a xs.length c ∧ Rd w a (bs xs)) ∧ (∃ a c, vy = .slice a ys.length c ∧ Rd w a (bs ys)) := ⟨owns_any_rd h.x, owns_any_rd h.y⟩

theorem Two.below {w w' : World} {base : Nat} {vx vy : Value} {xs ys : List UInt8} (h : Two w base vx vy xs ys) (hb : Below w.heap.size w w') : Two w' base vx vy xs ys := ⟨owns_below h.x hb (Nat.le_refl _), owns_below h.y hb (Nat.le_refl _), h.apart⟩

theorem owns_lower {w : World} {b b' n : Nat} {e : TypeId} {v : Value} {L : List Value} (h : w.ownsRow b e 1 v n L) (hb : b' ≤ b) : w.ownsRow b' e 1 v n L := by
  obtain ⟨h1, h2⟩ := h
  refine ⟨h1, ?_⟩
  rcases h2 with h2 | ⟨g, cap, cur, e1, e2, e3⟩
  · exact .inl h2
  · exact .inr ⟨g, cap, cur, e1, Nat.le_trans hb e2, e3⟩

/-- What reads as it was made, at its own address. -/
theorem owns_rd_at {w : World} {base n m c : Nat} {e : TypeId} {L : List Value} {a : Option Addr} (h : w.ownsRow base e 1 (.slice a m c) n L) : Rd w a L := by
  obtain ⟨a', c', e1, h1⟩ := owns_any_rd h
  injection e1 with e1 _ _
  subst e1
  exact h1

/-- A row that was there ahead of the world, and one that came behind it. -/
theorem apart_of_base {w W : World} {b B n m : Nat} {e e' : TypeId} {v v' : Value} {L L' : List Value} (h : w.ownsRow b e 1 v n L) (h' : W.ownsRow B e' 1 v' m L') (hB : w.heap.size ≤ B) : Apart v v' := by
  cases hv : v.ownBlock with
  | none => exact .inl hv
  | some g =>
    cases hv' : v'.ownBlock with
    | none => exact .inr (.inl hv')
    | some g' =>
      refine .inr (.inr ?_)
      rw [hv, hv']
      intro e1
      injection e1 with e1
      have h1 := (h.lt g hv).2
      have h2 := (h'.lt g' hv').1
      omega
end Go.Proofs.YtcegdgmbponapaaGreatDoor
