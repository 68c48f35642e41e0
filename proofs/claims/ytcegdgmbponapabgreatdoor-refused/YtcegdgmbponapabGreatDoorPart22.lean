/-
  A value is put into a vault where nothing lies.
  The pieces of an object, made new.
  The shares of an object are made new.
-/
import Derived.Test.YtcegdgmbponapabGreatDoorPart21
import Derived.Test.YtcegdgmbponapabGreatDoorRepeat
namespace Go.Proofs.YtcegdgmbponapabGreatDoor
open Go.RowKit
attribute [local go_sem ↓] Go.wp_at_zero Go.wp_at_succ

theorem setCell_self {w : World} {b k : Nat} {u : Value} (h : w.cell? ⟨b, k, none⟩ = some u) : w.setCell ⟨b, k, none⟩ u = w := by
  unfold World.cell? at h
  cases hb : w.heap[b]? with
  | none => simp [hb] at h
  | some o =>
    cases o with
    | cells c t f =>
      simp [hb] at h
      rw [setCell_eq_setRow w b k c t f u hb, show c.setIfInBounds k u = c from ?_, setRow_self w b c t f hb]
      apply Array.ext_getElem?
      intro j
      rw [Array.getElem?_setIfInBounds]
      split
      · rename_i hjk
        subst hjk
        split
        · exact h.symm
        · rename_i hs; rw [Array.getElem?_eq_none (by omega)]
      · rfl
    | _ => simp [hb] at h

/-- An object lies at every store of a vault. -/
structure One (w : World) (base V key n B bc : Nat) (sp : Nat → Nat) (down : Nat → Bool) (mode t l size epoch : Nat) (nm : ByteArray) (P : Nat → List UInt8) (vs : Nat → Value) (xs : Nat → RecV) : Prop where
  vt : ∃ done ahead, Vt w V key n B bc sp done false ahead false
  st : ∀ i, i < n → Sto w (sp i) (down i) (vs i) [xs i]
  ok : ∀ i, i < n → RecOk w base key mode t l n size epoch nm (P i) i (xs i)
  xi : ∀ i j, i < j → j < n → (xs i).blk ≠ (xs j).blk
  vi : ∀ i j, i < j → j < n → (vs i).ownBlock ≠ (vs j).ownBlock
  si : ∀ i j, i < j → j < n → sp i ≠ sp j
  bV : base ≤ V
  bB : base ≤ B
  bsp : ∀ i, i < n → base ≤ sp i
  bv : ∀ i, i < n → ∀ b, (vs i).ownBlock = some b → base ≤ b

/-- What holds behind t of the writes of a Put. -/
def PutJ (W n : Nat) (sp : Nat → Nat) (xs : List RecV) (t : Nat) (w : World) : Prop :=
  W ≤ w.heap.size ∧ ∃ vs : Nat → Value, (∀ i, i < t → Sto w (sp i) false (vs i) [xs[i]!] ∧ ∀ b, (vs i).ownBlock = some b → W ≤ b) ∧ (∀ i j, i < j → j < t → (vs i).ownBlock ≠ (vs j).ownBlock) ∧ ∀ i, t ≤ i → i < n → Sto w (sp i) false (.slice none 0 0) []

theorem PutJ.keeps {W V n : Nat} {sp : Nat → Nat} {xs : List RecV} {t : Nat} {w w' : World} (h : PutJ W n sp xs t w) (hs : Spared (fun b => b = V) w w') (hV : V < W) (hsp : ∀ i, i < n → sp i ≠ V) (htn : t ≤ n) : PutJ W n sp xs t w' := by
  obtain ⟨h0, vs, h1, h2, h3⟩ := h
  refine ⟨Nat.le_trans h0 hs.size, vs, fun i hi => ⟨(h1 i hi).1.keeps hs (hsp i (by omega)) (fun b hb e => by have := (h1 i hi).2 b hb; omega), (h1 i hi).2⟩, h2, fun i hi hin => (h3 i hi hin).keeps hs (hsp i hin) (fun b hb => by cases hb)⟩

theorem put_one (W n : Nat) (sp : Nat → Nat) (xs : List RecV) (i : Nat) (w : World) (h : PutJ W n sp xs i w) (hi : i < n) (hsi : ∀ i j, i < j → j < n → sp i ≠ sp j) (hlt : ∀ i, i < n → sp i < W) :
    Calls Tryz.prog 80 #[.pointer (some ⟨sp i, 0, none⟩), (xs[i]!).val] w fun e w' => e = .returned (.tuple #[]) ∧ PutJ W n sp xs (i + 1) w' ∧ Spared (fun b => ∃ i, i < n ∧ b = sp i) w w' := by
  obtain ⟨h0, vs, h1, h2, h3⟩ := h
  refine (add_first (sp i) false (xs[i]!) w (h3 i (Nat.le_refl _) hi)).mono ?_
  rintro e w' ⟨rfl, v', hst, hnew, hsp⟩
  have hne : ∀ j, j < n → j ≠ i → ¬ sp j = sp i := by
    intro j hj hji e
    rcases Nat.lt_or_gt_of_ne hji with h | h
    · exact hsi j i h hi e
    · exact hsi i j h hj e.symm
  refine ⟨rfl, ⟨Nat.le_trans h0 hsp.size, fun j => if j = i then v' else vs j, ?_, ?_, ?_⟩, hsp.mono fun b hb => ⟨i, hi, hb⟩⟩
  · intro j hj
    by_cases hji : j = i
    · subst hji
      simp only [if_true]
      exact ⟨hst, fun b hb => Nat.le_trans h0 (hnew b hb)⟩
    · simp only [hji, if_false]
      refine ⟨(h1 j (by omega)).1.keeps hsp (hne j (by omega) hji) (fun b hb e => ?_), (h1 j (by omega)).2⟩
      have := (h1 j (by omega)).2 b hb
      have := hlt i hi
      omega
  · intro a b hab hb
    by_cases hbi : b = i
    · subst hbi
      simp only [show ¬ a = b by omega, if_false, if_true]
      intro he
      cases ho : v'.ownBlock with
      | none =>
        rcases hst.row with ⟨_, ⟨_, hn⟩ | ⟨g, cap, cur, rfl, _⟩⟩
        · simp at hn
        · cases ho
      | some q =>
        rw [ho] at he
        have h4 := hnew q ho
        have h5 := ((h1 a hab).1.row.lt q he).2
        omega
    · simp only [show ¬ a = i by omega, hbi, if_false]
      exact h2 a b hab (by omega)
  · intro j hj hjn
    exact (h3 j (by omega) hjn).keeps hsp (hne j hjn (by omega)) (fun b hb => by cases hb)

theorem RecOk.mono {w : World} {base base' key mode t l n size epoch : Nat} {nm : ByteArray} {P : List UInt8} {j : Nat} {r : RecV} (h : RecOk w base key mode t l n size epoch nm P j r) (hb : base' ≤ base) : RecOk w base' key mode t l n size epoch nm P j r :=
  ⟨h.e, h.sn, World.ownsRow.mono h.own hb⟩

theorem split_len {mode t l n : Nat} (hp : IsPlan mode t l n) (v tape : List UInt8) (i : Nat) (hi : i < n) (htp : Cof.tsize mode t * Cof.ngroups mode t l v.length ≤ tape.length) : ((Cof.split v mode t l n tape).getD i []).length = Cof.ngroups mode t l v.length := by
  have e : Cof.split v mode t l n tape = Cof.split v mode t l n (tape.take (Cof.tsize mode t * Cof.ngroups mode t l v.length)) := by
    unfold Cof.split
    rw [List.take_take, Nat.min_self]
  have hg : 0 < Cof.gsize mode t l := by
    obtain ⟨_, _, h3, _, h5, _⟩ := hp
    unfold Cof.gsize
    split <;> omega
  rw [e, Cof.split_row v _ mode t l n i hi hg (by rw [List.length_take]; omega)]
  simp

set_option maxRecDepth 100000 in
set_option maxHeartbeats 2000000 in
theorem vput_ok (V key n B bc : Nat) (sp : Nat → Nat) (done ahead : Int) (mode t l size : Nat) (nm vl tape : ByteArray) (w : World) (hv : Vt w V key n B bc sp done false ahead false) (hst : ∀ i, i < n → Sto w (sp i) false (.slice none 0 0) []) (hsi : ∀ i j, i < j → j < n → sp i ≠ sp j)
    (hp : IsPlan mode t l n) (hz : size ≤ 60) (hvs : vl.size = size) (h1 : 1 ≤ nm.size) (h12 : nm.size ≤ 12) (hng : Cof.ngroups mode t l size ≤ 60) (htp : Cof.tsize mode t * Cof.ngroups mode t l size ≤ tape.size) (hk : key < 18446744073709551616) (base : Nat) (hbV : base ≤ V) (hbB : base ≤ B) (hbs : ∀ i, i < n → base ≤ sp i) :
    Calls Tryz.prog 38 #[.pointer (some ⟨V, 0, none⟩), .string nm, .string vl, .agg #[.int .i64 mode, .int .i64 t, .int .i64 l], .string tape] w fun e w' =>
      e = .returned .nilIface ∧ (∃ vs xs, One w' base V key n B bc sp (fun _ => false) mode t l size 0 nm (fun i => (Cof.split vl.data.toList mode t l n tape.data.toList).getD i []) vs xs ∧ (∀ i, i < n → ∀ b, (vs i).ownBlock = some b → w.heap.size ≤ b) ∧ ∀ i, i < n → ∀ b, (xs i).blk = some b → w.heap.size ≤ b) ∧ Spared (fun b => b = V ∨ ∃ i, i < n ∧ b = sp i) w w' := by
  have hn1 := hp.n1
  have hn8 := hp.n8
  have hba1 := (Below.refl w.heap.size w).alloc (Nat.le_refl _) (.cells #[.int .i64 mode, .int .i64 t, .int .i64 l] 29)
  have hba2 := hba1.alloc (by simp) (.cells #[.string nm, .int .i64 mode, .int .i64 t, .int .i64 l, .int .i64 size, .int .i64 0] 65)
  have hR := hv.rdy hn1 hn8
  have hS0 := (hst 0 (by omega)).keeps (Spared.ofBelow (own := fun _ => False) hba2 (Nat.le_refl _)) (fun h => h) (fun _ _ h => h)
  have HCUT := hid (cut_ok V key n B bc sp false (.slice none 0 0) [] mode t l size nm vl tape _ (hR.keeps hba2 (Nat.le_refl _)) hS0 (by simp [hasName]) (by decide) hp hz hvs h1 h12 hng htp (fun i hi => (hba2.cell (cells_lt (hst i hi).hp)).trans (by rw [cells_at (hst i hi).hp]; rfl)) (fun i hi => by have := cells_lt (hst i hi).hp; simp; omega))
  have HVS := hid hvs
  have hvz : (vl.size : Int) = (size : Int) := by omega
  go_enter Tryz.func38, Tryz.ntmps38
  go_wp2_with fail
  refine HCUT.out.mono ?_
  rintro e w3 ⟨g, rfl, hrows, hb3⟩
  have hb23 : Below w.heap.size w w3 := hba2.trans (hb3.mono (by simp; omega))
  have hz3 : w.heap.size + 1 < w3.heap.size := by have := hb3.size; simp at this; omega
  have e3 : ∀ o, w3.cell? ⟨w.heap.size + 1, o, none⟩ = _ := fun o => (bcell hb3).1 (w.heap.size + 1) o (by simp)
  have o3 : w3.cell? ⟨w.heap.size + 1, 0, none⟩ = some (.string nm) := by rw [e3, World.cell?_alloc_at _ _ _ _ (by simp)]; rfl
  have o31 : w3.cell? ⟨w.heap.size + 1, 1, none⟩ = some (.int .i64 mode) := by rw [e3, World.cell?_alloc_at _ _ _ _ (by simp)]; rfl
  have o32 : w3.cell? ⟨w.heap.size + 1, 2, none⟩ = some (.int .i64 t) := by rw [e3, World.cell?_alloc_at _ _ _ _ (by simp)]; rfl
  have o33 : w3.cell? ⟨w.heap.size + 1, 3, none⟩ = some (.int .i64 l) := by rw [e3, World.cell?_alloc_at _ _ _ _ (by simp)]; rfl
  have o34 : w3.cell? ⟨w.heap.size + 1, 4, none⟩ = some (.int .i64 size) := by rw [e3, World.cell?_alloc_at _ _ _ _ (by simp)]; rfl
  have o35 : w3.cell? ⟨w.heap.size + 1, 5, none⟩ = some (.int .i64 0) := by rw [e3, World.cell?_alloc_at _ _ _ _ (by simp)]; rfl
  have f3 : w3.frozen? ⟨w.heap.size + 1, 0, none⟩ = false := by rw [(bcell hb3).2 (w.heap.size + 1) 0 (by simp)]; simp
  have HROWS := hid hrows
  have HB23 := hid hb23
  clear hrows e3 hb3
  go_wp2_with fail
  refine (sclone_any nm w3 (by omega)).mono ?_
  rintro e w4 ⟨rfl, hb4⟩
  have hb04 := HB23.out.trans (hb4.mono HB23.out.size)
  have q0 : w4.cell? ⟨w.heap.size + 1, 0, none⟩ = some (.string nm) := (hb4.cell hz3).trans o3
  have q1 : w4.cell? ⟨w.heap.size + 1, 1, none⟩ = some (.int .i64 mode) := (hb4.cell hz3).trans o31
  have q2 : w4.cell? ⟨w.heap.size + 1, 2, none⟩ = some (.int .i64 t) := (hb4.cell hz3).trans o32
  have q3 : w4.cell? ⟨w.heap.size + 1, 3, none⟩ = some (.int .i64 l) := (hb4.cell hz3).trans o33
  have q4 : w4.cell? ⟨w.heap.size + 1, 4, none⟩ = some (.int .i64 size) := (hb4.cell hz3).trans o34
  have q5 : w4.cell? ⟨w.heap.size + 1, 5, none⟩ = some (.int .i64 0) := (hb4.cell hz3).trans o35
  have qf : w4.frozen? ⟨w.heap.size + 1, 0, none⟩ = false := (hb4.frozen hz3).trans f3
  have HQ0 := hid (setCell_self q0)
  have hz4 : w.heap.size + 1 < w4.heap.size := Nat.lt_of_lt_of_le hz3 hb4.size
  clear o3 o31 o32 o33 o34 o35 f3
  go_wp2_with fail
  rw [HQ0.out]
  have hR4 := hR.keeps hb04 (Nat.le_refl _)
  refine (records_any V key n B bc sp mode t l size 0 (Cof.ngroups mode t l size) nm (some ⟨g, 0, none⟩) n _ w4 hR4 hp (by omega) hz h12 hk (split_length _ _ _ _ _ _) (fun i hi => by rw [split_len hp _ _ i hi (by simpa [HVS.out] using htp)]; simp [HVS.out]) hng (HROWS.out.below hb4 (Nat.le_refl _))).mono ?_
  rintro e w5 ⟨gr, xs, rfl, hmd⟩
  have hb45 := hmd.bl
  have hb05 := hb04.trans (hb45.mono hb04.size)
  have hV5 := hv.keeps (Spared.ofBelow (own := fun _ => False) hb05 (Nat.le_refl _)) (fun h => h) (fun h => h)
  have hS5 : ∀ i, i < n → Sto w5 (sp i) false (.slice none 0 0) [] := fun i hi => (hst i hi).keeps (Spared.ofBelow (own := fun _ => False) hb05 (Nat.le_refl _)) (fun h => h) (fun _ _ h => h)
  have hrow := hmd.row
  rw [Nat.sub_self, List.replicate_zero, List.append_nil] at hrow
  obtain ⟨_, _, hgv, hgrd⟩ := owns_rd_size hrow
  have hgeq := (by simpa using hgv : (some (⟨gr, 0, none⟩ : Addr)) = _ ∧ _)
  rw [← hgeq.1] at hgrd
  have hgr := hrow.lt gr rfl
  have hVl : V < w.heap.size := cells_lt hv.hp
  have hsl : ∀ i, i < n → sp i < w.heap.size := fun i hi => cells_lt (hst i hi).hp
  have hsV : ∀ i, i < n → sp i ≠ V := by
    intro i hi e
    have h1 := (hst i hi).hp
    have h2 := hv.hp
    rw [e, h2] at h1
    cases h1
  obtain ⟨LB, hLB, _⟩ := hv.hb
  have hBl : B < w.heap.size := cells_lt hLB
  have hsB : ∀ i, i < n → sp i ≠ B := by
    intro i hi e
    have h1 := (hst i hi).hp
    rw [e, hLB] at h1
    cases h1
  have hBV : B ≠ V := by
    intro e
    have h2 := hv.hp
    rw [← e, hLB] at h2
    cases h2
  have hW := write_free 0 1 (stepFns 0) (fun t w' => t ≤ n ∧ PutJ w5.heap.size n sp xs t w') (fun b => ∃ i, i < n ∧ b = sp i) V key n B bc gr n sp xs done ahead w5 rfl (by decide) hn8 steps_at0
    (fun j f hf args w' => by
      cases j with
      | zero => cases hf; exact Tryz.callAdd args w'
      | succ j => cases hf)
    hV5 hmd.len hgrd hgr.2
    (fun w' hb => ⟨Nat.zero_le _, hb.size, fun _ => .slice none 0 0, fun i hi => by omega, fun i j _ hj => by omega, fun i _ hi => (hS5 i hi).keeps (Spared.ofBelow (own := fun _ => False) hb (Nat.le_refl _)) (fun h => h) (fun _ _ h => h)⟩)
    (fun t w1 w2 h hs => ⟨h.1, h.2.keeps hs (by have := hb05.size; omega) hsV h.1⟩)
    (fun b ⟨i, hi, e⟩ => by have := hsl i hi; have := hb05.size; omega)
    (fun ⟨i, hi, e⟩ => hsV i hi e.symm) (fun ⟨i, hi, e⟩ => hsB i hi e.symm) (fun ⟨i, hi, e⟩ => by have := hsl i hi; have := hb04.size; omega) (by have := hb04.size; omega) hBV
    (fun j i f w1 hf hi hJ _ => by
      cases j with
      | zero =>
        cases hf
        rw [Nat.zero_mul, Nat.zero_add] at hJ ⊢
        refine (put_one w5.heap.size n sp xs i w1 hJ.2 hi hsi (fun i hi => by have := hsl i hi; have := hb05.size; omega)).mono ?_
        rintro e w2 ⟨rfl, hj, hs⟩
        exact ⟨rfl, ⟨by omega, hj⟩, hs⟩
      | succ j => cases hf)
  have HW := hid hW
  clear hW
  go_wp2_with fail
  refine HW.out.mono ?_
  rintro e w6 ⟨rfl, hwrt⟩
  have HWR := hid hwrt
  clear hwrt
  go_wp2_with (go_at_call 53; refine (at_nil _ _).mono ?_; rintro e w7 ⟨rfl, rfl⟩)
  go_ret
  have hJ := HWR.out.j
  rw [Nat.one_mul] at hJ
  obtain ⟨_, _, vs, hj1, hj2, _⟩ := hJ
  have hsp6 := HWR.out.sp
  have hxb : ∀ i, i < n → ∀ b, (xs[i]!).blk = some b → w4.heap.size ≤ b := fun i hi b hb => ((hmd.ok i hi).own.lt b hb).1
  refine ⟨rfl, ⟨vs, fun i => xs[i]!, ⟨HWR.out.vt, fun i hi => (hj1 i hi).1, fun i hi => ?_, hmd.inj, hj2, hsi, hbV, hbB, hbs, fun i hi b hb => ?_⟩, fun i hi b hb => ?_, fun i hi b hb => ?_⟩, ?_⟩
  · refine ((hmd.ok i hi).keeps hsp6 (fun b hb ho => ?_)).mono (by have := hb04.size; omega)
    have := hxb i hi b hb
    have := hb04.size
    rcases ho with rfl | ⟨q, hq, rfl⟩
    · omega
    · have := hsl q hq; omega
  · have := (hj1 i hi).2 b hb
    have := hb05.size
    omega
  · have := (hj1 i hi).2 b hb
    have := hb05.size
    omega
  · have := hxb i hi b hb
    have := hb04.size
    omega
  · exact (Spared.ofBelow hb05 (Nat.le_refl _)).trans hsp6
end Go.Proofs.YtcegdgmbponapabGreatDoor

namespace Go.Proofs.YtcegdgmbponapabGreatDoor
open Go.RowKit
attribute [local go_sem ↓] Go.wp_at_zero Go.wp_at_succ

theorem own_rows {w : World} {base g n : Nat} {e : TypeId} {rows : List (List UInt8)} (F : Nat → List UInt8) (ho : OwnR w base g n e) (hr : RdRows w (some ⟨g, 0, none⟩) rows) (hl : rows.length = n) :
    ∃ vs, Rows w base g n 0 e F vs ∧ ∀ (j : Nat) (v : Value), vs[j]? = some v → ∃ a' c', v = .slice a' (rows.getD j []).length c' ∧ Rd w a' (bs (rows.getD j [])) := by
  obtain ⟨vs, hown⟩ := ho
  have hvl := (block_of_owns hown).2.2
  have key : ∀ (j : Nat) (v : Value), vs[j]? = some v → ∃ a' c', v = .slice a' (rows.getD j []).length c' ∧ Rd w a' (bs (rows.getD j [])) := by
    intro j v hv
    have hj : j < n := by
      rcases Nat.lt_or_ge j vs.length with h | h
      · omega
      · rw [List.getElem?_eq_none h] at hv; cases hv
    obtain ⟨b, o, a', c', hga, _, hc, hrd⟩ := hr.at j (by omega)
    cases hga
    rw [Nat.zero_add, hown.cellAt j (by omega), hv] at hc
    cases hc
    exact ⟨a', c', rfl, hrd⟩
  refine ⟨vs, ⟨hown, fun v hv => ?_, fun j v hj => by omega⟩, key⟩
  obtain ⟨j, hj, rfl⟩ := List.getElem_of_mem hv
  obtain ⟨a', c', h, _⟩ := key j _ (List.getElem?_eq_getElem hj)
  exact ⟨a', _, c', h⟩

theorem cmpB_self (a : ByteArray) : cmpB a a = 0 := cmpB_zero.2 rfl
theorem pos_one {r : RecV} {nm : ByteArray} (h : r.name = nm) : posOf [r] nm = 0 := by
  unfold posOf
  rw [List.countP_eq_zero]
  intro x hx
  have : x = r := by simpa using hx
  subst this
  rw [h, cmpB_self]
  simp
theorem has_one {r : RecV} {nm : ByteArray} (h : r.name = nm) : hasName [r] nm = true := by
  unfold hasName
  rw [pos_one h]
  simp [h, cmpB_self]

theorem owns_caps {w : World} {base n size : Nat} {e : TypeId} {L : List Value} {a : Option Addr} {m c : Nat} (h : w.ownsRow base e size (.slice a m c) n L) : m ≤ c := by
  rcases h with ⟨_, ⟨h2, _⟩ | ⟨g, cap, cur, h2, _, _, h5, _⟩⟩
  · cases h2; exact Nat.le_refl _
  · cases h2; exact h5

theorem repeat_zero (k : Nat) : Lib.repeatL [0] k = List.replicate k 0 := by
  induction k with
  | zero => rfl
  | succ k ih => simp [Lib.repeatL, ih, List.replicate_succ]

/-- The piece of store i is taken out of the shard that lies there. -/
theorem One.piece {w : World} {base V key n B bc : Nat} {sp : Nat → Nat} {down : Nat → Bool} {mode t l size epoch : Nat} {nm : ByteArray} {P : Nat → List UInt8} {vs : Nat → Value} {xs : Nat → RecV} (h : One w base V key n B bc sp down mode t l size epoch nm P vs xs)
    (hp : IsPlan mode t l n) (he : epoch ≤ 100) (hz : size ≤ 60) (hn1 : 1 ≤ nm.size) (hnm : nm.size ≤ 12) (hk : key < 18446744073709551616) (hl : Cof.ngroups mode t l size ≤ 60) (hP : ∀ i, i < n → (P i).length = Cof.ngroups mode t l size) (i : Nat) (hi : i < n) (w' : World) (hb : Below w.heap.size w w') (hT : Tab w') :
    Calls Tryz.prog 94 #[.pointer (some ⟨V, 0, none⟩), .int .i64 i, .agg #[.string nm, .int .i64 mode, .int .i64 t, .int .i64 l, .int .i64 size, .int .i64 epoch]] w' fun e w'' =>
      ∃ pv, e = .returned (.tuple #[pv, .nilIface]) ∧ w''.ownsRow w'.heap.size 5 1 pv (Cof.ngroups mode t l size) (bs (P i)) ∧ Below w'.heap.size w' w'' := by
  obtain ⟨done, ahead, hvt⟩ := h.vt
  have hR := (hvt.rdy hp.n1 hp.n8).keeps hb (Nat.le_refl _)
  obtain ⟨a, c, _, hst⟩ := (h.st i hi).st
  have hok := (h.ok i hi).keeps (Spared.ofBelow (own := fun _ => False) hb (Nat.le_refl _)) (fun _ _ h => h)
  have hnm' := hok.e.1
  obtain ⟨sa', sc', hsv, hrd⟩ := owns_rd_size hok.own
  have hrd' : Rd w' (xs i).sa (bs (Cof.sealed key (Cof.head mode t l n i epoch size nm.data.toList ++ P i))) := by cases hsv; exact hrd
  have hXl : (Cof.sealed key (Cof.head mode t l n i epoch size nm.data.toList ++ P i)).length = 10 + nm.size + (P i).length + 8 := by
    unfold Cof.sealed
    simp [Cof.length_head, Cof.length_high]
    omega
  exact vpiece_good V key n B bc sp i (down i) a c [xs i] (xs i) mode t l size epoch nm w' hR hi (hst.keeps hb (Nat.le_refl _)) (has_one hnm') (by rw [pos_one hnm']; rfl) _ rfl _ (P i) hp he hz hn1 hnm hk hl hrd' (by rw [hok.sn, hXl]) (owns_caps hok.own) ⟨hP i hi, rfl⟩ hT

theorem range_getD (l : List (List UInt8)) (n : Nat) (h : l.length = n) : (List.range n).map (fun i => l.getD i []) = l := by
  apply List.ext_getElem
  · simp [h]
  · intro i h1 h2
    simp [h2]

set_option maxRecDepth 100000 in
set_option maxHeartbeats 2000000 in
theorem refreshed_ok (base V key n B bc : Nat) (sp : Nat → Nat) (mode t l size epoch : Nat) (nm tape : ByteArray) (P : Nat → List UInt8) (vs : Nat → Value) (xs : Nat → RecV) (w : World) (h : One w base V key n B bc sp (fun _ => false) mode t l size epoch nm P vs xs)
    (hp : IsPlan mode t l n) (hm0 : mode = 0) (he : epoch < 100) (hz : size ≤ 60) (hn1 : 1 ≤ nm.size) (hnm : nm.size ≤ 12) (hk : key < 18446744073709551616) (hl : Cof.ngroups mode t l size ≤ 60) (hP : ∀ i, i < n → (P i).length = Cof.ngroups mode t l size) (htp : Cof.tsize mode t * Cof.ngroups mode t l size ≤ tape.size) (hT : Tab w) :
    Calls Tryz.prog 62 #[.pointer (some ⟨V, 0, none⟩), .agg #[.string nm, .int .i64 mode, .int .i64 t, .int .i64 l, .int .i64 size, .int .i64 epoch], .string tape] w fun e w' =>
      ∃ g, e = .returned (.tuple #[.slice (some ⟨g, 0, none⟩) n n, .nilIface]) ∧ RdRows w' (some ⟨g, 0, none⟩) ((List.range n).map fun i => Cof.sumRow (P i) ((Cof.split (List.replicate size 0) mode t l n tape.data.toList).getD i [])) ∧ Below w.heap.size w w' := by
  have hba := (Below.refl w.heap.size w).alloc (Nat.le_refl _) (.cells #[.string nm, .int .i64 mode, .int .i64 t, .int .i64 l, .int .i64 size, .int .i64 epoch] 65)
  have HREP := hid (Tryz.strings_Repeat ⟨#[0]⟩ size (w.alloc (.cells #[.string nm, .int .i64 mode, .int .i64 t, .int .i64 l, .int .i64 size, .int .i64 epoch] 65)) (by omega) (by show 1 * size ≤ _; omega))
  obtain ⟨nz, hnz⟩ : ∃ nz : ByteArray, nz = ⟨(Lib.repeatL (⟨#[0]⟩ : ByteArray).data.toList size).toArray⟩ := ⟨_, rfl⟩
  rw [← hnz] at HREP
  have hnl : nz.data.toList = List.replicate size 0 := by rw [hnz]; simp [repeat_zero]
  have hns : nz.size = size := by show nz.data.size = size; rw [← Array.length_toList, hnl]; simp
  have HSP := hid (fun w' => cutSplit_ok mode t l n nz tape w' hp (by omega) (by rw [hns]; exact htp))
  rw [hnl] at HSP
  have hZl : (Cof.split (List.replicate size 0) mode t l n tape.data.toList).length = n := split_length _ _ _ _ _ _
  have hZr : ∀ i, i < n → ((Cof.split (List.replicate size 0) mode t l n tape.data.toList).getD i []).length = Cof.ngroups mode t l size := fun i hi => by
    rw [split_len hp _ _ i hi (by simpa using htp)]; simp
  generalize Cof.split (List.replicate size 0) mode t l n tape.data.toList = Z at *
  obtain ⟨done, ahead, hvt⟩ := h.vt
  have hn8 := hp.n8
  have hn1' := hp.n1
  have HR := hid (hvt.rdy hn1' hn8)
  have HPC := hid (fun i hi w' hb hT => h.piece hp (by omega) hz hn1 hnm hk hl hP i hi w' hb hT)
  have HUP := hid (show ∀ i, i < n → w.cell? ⟨sp i, 0, none⟩ = some (.bool false) from fun i hi => by rw [cells_at (h.st i hi).hp]; rfl)
  have HLT := hid (show ∀ i, i < n → sp i < w.heap.size from fun i hi => cells_lt (h.st i hi).hp)
  have HT := hid hT
  have HZL := hid hZl
  have HZR := hid hZr
  have HPL := hid hP
  obtain ⟨ng, hng⟩ : ∃ ng, ng = Cof.ngroups mode t l size := ⟨_, rfl⟩
  rw [← hng] at HPC HZR HPL hl
  have q1 : ((mode : Int) == 1) = false := by rw [hm0]; rfl
  have q2 : ¬ (100 : Int) ≤ (epoch : Int) := by omega
  clear h hp hm0 hz hn1 hnm hk hP htp hT hnz hnl hns hZl hZr hng hvt
  go_enter Tryz.func62, Tryz.ntmps62
  go_wp2_with fail
  refine HREP.out.mono ?_
  rintro e w1 ⟨rfl, hb1⟩
  have hb01 : Below w.heap.size w w1 := hba.trans (hb1.mono (by simp))
  have hz1 : w.heap.size < w1.heap.size := by have := hb1.size; simp at this; omega
  have HOB := hid (show w1.heap[w.heap.size]? = some (.cells #[.string nm, .int .i64 mode, .int .i64 t, .int .i64 l, .int .i64 size, .int .i64 epoch] 65) from (hb1.block _ (by simp)).trans (alloc_at _ _))
  have o1 : w1.cell? ⟨w.heap.size, 1, none⟩ = some (.int .i64 mode) := by rw [cells_at HOB.out]; rfl
  have o2 : w1.cell? ⟨w.heap.size, 2, none⟩ = some (.int .i64 t) := by rw [cells_at HOB.out]; rfl
  have o3 : w1.cell? ⟨w.heap.size, 3, none⟩ = some (.int .i64 l) := by rw [cells_at HOB.out]; rfl
  have HR1 := hid (HR.out.keeps hb01 (Nat.le_refl _))
  have c1 := HR1.out.va.c1
  have lV := HR1.out.va.lt
  go_wp2_with fail
  go_region_held3 (fun w' => w'.cell? ⟨V, 1, none⟩ = some (.slice (some ⟨B, 0, none⟩) n bc) ∧ w'.cell? ⟨w.heap.size, 1, none⟩ = some (.int .i64 mode) ∧ w'.cell? ⟨w.heap.size, 2, none⟩ = some (.int .i64 t) ∧ w'.cell? ⟨w.heap.size, 3, none⟩ = some (.int .i64 l)) (first | exact ⟨c1, o1, o2, o3⟩ | exact D2.out | go_keep)
    (first | (go_at_call 88; refine (HSP.out _).mono ?_; rintro e w2 ⟨g, rfl, hrows, hb2, hown⟩; (have hb12 : Below w1.heap.size w1 w2 := (Below.refl w1.heap.size w1).drew.trans hb2); (have D2 := hid (show w2.cell? ⟨V, 1, none⟩ = some (.slice (some ⟨B, 0, none⟩) n bc) ∧ w2.cell? ⟨w.heap.size, 1, none⟩ = some (.int .i64 mode) ∧ w2.cell? ⟨w.heap.size, 2, none⟩ = some (.int .i64 t) ∧ w2.cell? ⟨w.heap.size, 3, none⟩ = some (.int .i64 l) from ⟨(hb12.cell lV).trans c1, (hb12.cell hz1).trans o1, (hb12.cell hz1).trans o2, (hb12.cell hz1).trans o3⟩)); (have HROWS := hid hrows); (have HOWN := hid hown); clear hrows hown))
  have hb02 := hb01.trans (hb12.mono hb01.size)
  have HAU := hid (allUp_yes V key n B 0 bc sp w2 (HR1.out.va.keeps hb12 (Nat.le_refl _)) hn8 (fun i hi => (hb02.cell (HLT.out i hi)).trans (HUP.out i hi)))
  have HOB2 := hid (show w2.heap[w.heap.size]? = _ from (hb12.block _ hz1).trans HOB.out)
  obtain ⟨vs0, hrow0, hrest0⟩ := own_rows (fun i => Cof.sumRow (P i) (Z.getD i [])) HOWN.out HROWS.out HZL.out
  have HI0 := hid (And.intro hrow0 hrest0)
  have hgz := (hrow0.own.lt g rfl)
  have hgw : w1.heap.size ≤ g := by have h1 := hgz.1; simp at h1; omega
  clear hrow0 hrest0
  go_wp2_with (go_at_call 63; refine HAU.out.mono ?_; rintro e w3 ⟨rfl, rfl⟩)
  go_loopw [54] (fun u wr => ∃ (k : Nat) (vq : List Value), k ≤ n ∧ u = .int .i64 k ∧ Rows wr w1.heap.size g n k 44 (fun i => Cof.sumRow (P i) (Z.getD i [])) vq ∧ (∀ (j : Nat) (v : Value), k ≤ j → vq[j]? = some v → ∃ a' c', v = .slice a' (Z.getD j []).length c' ∧ Rd wr a' (bs (Z.getD j []))) ∧ Below w1.heap.size w1 wr) (fun u _ => n - (intOf u).toNat)
  case atStart => exact ⟨0, vs0, Nat.zero_le _, rfl, HI0.out.1, fun j v _ hv => HI0.out.2 j v hv, hb12⟩
  case round =>
    obtain ⟨k, vq, hkn, rfl, hrow, hrest, hbr⟩ := hrel
    by_cases hlt : k < n
    · have hb0r := hb01.trans (hbr.mono hb01.size)
      have HOBR := hid (show wr.heap[w.heap.size]? = _ from (hbr.block _ hz1).trans HOB.out)
      have o0 : wr.cell? ⟨w.heap.size, 0, none⟩ = some (.string nm) := by rw [cells_at HOBR.out]; rfl
      have o1 : wr.cell? ⟨w.heap.size, 1, none⟩ = some (.int .i64 mode) := by rw [cells_at HOBR.out]; rfl
      have o2 : wr.cell? ⟨w.heap.size, 2, none⟩ = some (.int .i64 t) := by rw [cells_at HOBR.out]; rfl
      have o3 : wr.cell? ⟨w.heap.size, 3, none⟩ = some (.int .i64 l) := by rw [cells_at HOBR.out]; rfl
      have o4 : wr.cell? ⟨w.heap.size, 4, none⟩ = some (.int .i64 size) := by rw [cells_at HOBR.out]; rfl
      have o5 : wr.cell? ⟨w.heap.size, 5, none⟩ = some (.int .i64 epoch) := by rw [cells_at HOBR.out]; rfl
      have HPI := hid (HPC.out k hlt wr hb0r (HT.out.keeps hb0r (Nat.le_refl _)))
      have HROW := hid hrow
      have HREST := hid hrest
      have hlt' : (k : Int) < (n : Int) := by omega
      clear hrow hrest
      go_wp2_with fail
      refine HPI.out.mono ?_
      rintro e w4 ⟨pv, rfl, hpo, hb4⟩
      obtain ⟨pa, pc, rfl, hprd⟩ := owns_rd_size hpo
      have hrow4 := HROW.out.kept hb4 (Nat.le_refl _)
      obtain ⟨zv, hzv⟩ : ∃ zv, vq[k]? = some zv := ⟨_, List.getElem?_eq_getElem (by have := (block_of_owns HROW.out.own).2.2; omega)⟩
      obtain ⟨za, zc, rfl, hzrd⟩ := HREST.out k zv (Nat.le_refl _) hzv
      have cg : w4.cell? ⟨g, k, none⟩ = some (.slice za (Z.getD k []).length zc) := by rw [hrow4.own.cellAt k (by omega)]; exact hzv
      have HZRD := hid (hzrd.below hb4 (Nat.le_refl _))
      have HPRD := hid hprd
      have HZK := hid (HZR.out k hlt)
      obtain ⟨zl, hzl⟩ : ∃ zl, zl = (Z.getD k []).length := ⟨_, rfl⟩
      rw [← hzl] at cg HZK
      have HZLL := hid hzl
      have HSUM := hid (sumB pa za pc zc ng zl (P k) (Z.getD k []) w4 (HPL.out k hlt).symm HZLL.out HPRD.out HZRD.out (by omega) (by rw [HZK.out]; omega))
      have HR4 := hid hrow4
      have hg4 := (hrow4.own.lt g rfl).2
      clear hpo hprd hzrd hzl hrow4 hzv
      go_wp2_with fail
      refine HSUM.out.mono ?_
      rintro e w5 ⟨g5, l5, rfl, hl5, hrd5, hb5⟩
      have hrow5 := HR4.out.kept hb5 (Nat.le_refl _)
      have cg5 : w5.cell? ⟨g, k, none⟩ = some (.slice za zl zc) := (hb5.cell hg4).trans cg
      have fg5 := hrow5.own.frozenAt k
      have HN5 := hid (hrow5.next (a := some ⟨g5, 0, none⟩) (l := l5) (cap := l5) hl5 hrd5)
      have HR5 := hid hrow5
      have hb45 := hb4.trans (hb5.mono hb4.size)
      clear hrow5 hl5 hrd5 cg
      go_wp2_with fail
      go_roundw
      case rel =>
        refine ⟨k + 1, _, by omega, by go_num, HN5.out, fun j v hj hv => ?_, (hbr.trans (hb45.mono hbr.size)).setCell (by show w1.heap.size ≤ g; exact hgw) _⟩
        rw [List.getElem?_set, if_neg (by omega)] at hv
        obtain ⟨a', c', h1, h2⟩ := HREST.out j v (by omega) hv
        exact ⟨a', c', h1, (h2.below hb45 (Nat.le_refl _)).setCell_other (block_of_owns HR5.out.own).1 HR5.out.shape _⟩
      case measure => simp [intOf]; omega
    · have hkk : k = n := by omega
      subst hkk
      have HF := hid hrow.full
      clear hrow hrest
      go_wp2
      go_ret2
      exact ⟨g, rfl, HF.out, hb01.trans (hbr.mono hb01.size)⟩
end Go.Proofs.YtcegdgmbponapabGreatDoor

namespace Go.Proofs.YtcegdgmbponapabGreatDoor
open Go.RowKit
attribute [local go_sem ↓] Go.wp_at_zero Go.wp_at_succ

/-- A store's record behind t of the writes of a Refresh. -/
def refState (n : Nat) (xs : Nat → RecV) (ys : List RecV) (t q : Nat) : RecV :=
  if q + n < t then ((xs q).laid (ys[q]!)).turned else if q < t then (xs q).laid (ys[q]!) else xs q

def RefJ (n : Nat) (sp : Nat → Nat) (xs : Nat → RecV) (ys : List RecV) (vs : Nat → Value) (t : Nat) (w : World) : Prop :=
  ∀ q, q < n → Sto w (sp q) false (vs q) [refState n xs ys t q]

theorem refState_other {n : Nat} {xs : Nat → RecV} {ys : List RecV} {i q j : Nat} (hi : i < n) (hq : q < n) (hqi : q ≠ i) (hj : j = 0 ∨ j = 1) : refState n xs ys (j * n + i + 1) q = refState n xs ys (j * n + i) q := by
  have e1 : (q + n < j * n + i + 1) = (q + n < j * n + i) := by rcases hj with rfl | rfl <;> exact propext ⟨fun h => by omega, fun h => by omega⟩
  have e2 : (q < j * n + i + 1) = (q < j * n + i) := by rcases hj with rfl | rfl <;> exact propext ⟨fun h => by omega, fun h => by omega⟩
  unfold refState
  simp only [e1, e2]

theorem RefJ.step {n : Nat} {sp : Nat → Nat} {xs : Nat → RecV} {ys : List RecV} {vs : Nat → Value} {i j : Nat} {w w' : World} (h : RefJ n sp xs ys vs (j * n + i) w) (hi : i < n) (hj : j = 0 ∨ j = 1) (hvi : ∀ i j, i < j → j < n → (vs i).ownBlock ≠ (vs j).ownBlock)
    (hs : Sto w' (sp i) false (vs i) [refState n xs ys (j * n + i + 1) i]) (hsp : Spared (fun b => (vs i).ownBlock = some b) w w') : RefJ n sp xs ys vs (j * n + i + 1) w' := by
  intro q hq
  by_cases hqi : q = i
  · subst hqi; exact hs
  · rw [refState_other hi hq hqi hj]
    refine (h q hq).keeps hsp (fun e => row_ne (h i hi).row (h q hq).hp (by decide) e) (fun b hb e => ?_)
    rcases Nat.lt_or_gt_of_ne hqi with hlt | hlt
    · exact hvi q i hlt hi (by rw [hb, e])
    · exact hvi i q hlt hq (by rw [hb, e])

theorem ref_lay (n : Nat) (sp : Nat → Nat) (xs : Nat → RecV) (ys : List RecV) (vs : Nat → Value) (i : Nat) (w : World) (h : RefJ n sp xs ys vs (0 * n + i) w) (hi : i < n) (hvi : ∀ i j, i < j → j < n → (vs i).ownBlock ≠ (vs j).ownBlock) (hnm : (xs i).name = (ys[i]!).name) :
    Calls Tryz.prog 123 #[.pointer (some ⟨sp i, 0, none⟩), (ys[i]!).val] w fun e w' => e = .returned (.tuple #[]) ∧ RefJ n sp xs ys vs (0 * n + i + 1) w' ∧ Spared (fun b => ∃ q, q < n ∧ (vs q).ownBlock = some b) w w' := by
  have h0 : refState n xs ys (0 * n + i) i = xs i := by unfold refState; rw [if_neg (by omega), if_neg (by omega)]
  have h1 : refState n xs ys (0 * n + i + 1) i = (xs i).laid (ys[i]!) := by unfold refState; rw [if_neg (by omega), if_pos (by omega)]
  have hst := h i hi
  rw [h0] at hst
  refine (lay_yes (sp i) false (vs i) [xs i] (ys[i]!) w hst (has_one hnm)).mono ?_
  rintro e w' ⟨rfl, hs, hsp⟩
  rw [pos_one hnm] at hs
  refine ⟨rfl, h.step hi (.inl rfl) hvi (by rw [h1]; exact hs) hsp, hsp.mono fun b hb => ⟨i, hi, hb⟩⟩

theorem ref_turn (n : Nat) (sp : Nat → Nat) (xs : Nat → RecV) (ys : List RecV) (vs : Nat → Value) (i : Nat) (ad : Addr) (w : World) (h : RefJ n sp xs ys vs (1 * n + i) w) (hi : i < n) (hvi : ∀ i j, i < j → j < n → (vs i).ownBlock ≠ (vs j).ownBlock) (hnm : (xs i).name = (ys[i]!).name) (had : (ys[i]!).sa = some ad) (he : (xs i).epoch ≤ 1000) :
    Calls Tryz.prog 124 #[.pointer (some ⟨sp i, 0, none⟩), (ys[i]!).val] w fun e w' => e = .returned (.tuple #[]) ∧ RefJ n sp xs ys vs (1 * n + i + 1) w' ∧ Spared (fun b => ∃ q, q < n ∧ (vs q).ownBlock = some b) w w' := by
  have h0 : refState n xs ys (1 * n + i) i = (xs i).laid (ys[i]!) := by unfold refState; rw [if_neg (by omega), if_pos (by omega)]
  have h1 : refState n xs ys (1 * n + i + 1) i = ((xs i).laid (ys[i]!)).turned := by unfold refState; rw [if_pos (by omega)]
  have hst := h i hi
  rw [h0] at hst
  have hnm' : ((xs i).laid (ys[i]!)).name = (ys[i]!).name := hnm
  refine (turn_yes (sp i) false (vs i) [(xs i).laid (ys[i]!)] (ys[i]!) ((xs i).laid (ys[i]!)) ad w hst (has_one hnm') (by rw [pos_one hnm']; rfl) had he).mono ?_
  rintro e w' ⟨rfl, hs, hsp⟩
  rw [pos_one hnm'] at hs
  refine ⟨rfl, h.step hi (.inr rfl) hvi (by rw [h1]; exact hs) hsp, hsp.mono fun b hb => ⟨i, hi, hb⟩⟩

theorem RefJ.keeps {n : Nat} {sp : Nat → Nat} {xs : Nat → RecV} {ys : List RecV} {vs : Nat → Value} {t V : Nat} {w w' : World} (h : RefJ n sp xs ys vs t w) (hs : Spared (fun b => b = V) w w') (hsV : ∀ i, i < n → sp i ≠ V) (hvV : ∀ i, i < n → (vs i).ownBlock ≠ some V) : RefJ n sp xs ys vs t w' :=
  fun q hq => (h q hq).keeps hs (hsV q hq) (fun b hb e => hvV q hq (by rw [hb, e]))

theorem Rd.setCell_kind {w : World} {a : Option Addr} {cs : List Value} {g k : Nat} (hr : Rd w a cs) (u : Value) (h : ∀ (q : Nat) (v : Value), cs[q]? = some v → ∀ j, w.cell? ⟨g, j, none⟩ ≠ some v) : Rd (w.setCell ⟨g, k, none⟩ u) a cs := by
  intro j v hj
  obtain ⟨b, o, h1, h2, h3⟩ := hr j v hj
  have hbg : b ≠ g := by rintro rfl; exact h j v hj _ h3
  refine ⟨b, o, h1, by simpa using h2, ?_⟩
  rw [World.cell?_of_block (Below.heap_setCell w ⟨g, k, none⟩ u b hbg)]; exact h3

theorem RdRows.setCell_kind {w : World} {a : Option Addr} {rows : List (List UInt8)} {g k : Nat} (hr : RdRows w a rows) (u : Value) (h1 : ∀ j a n c, w.cell? ⟨g, j, none⟩ ≠ some (.slice a n c)) (h2 : ∀ j x, w.cell? ⟨g, j, none⟩ ≠ some (.int .u8 x)) : RdRows (w.setCell ⟨g, k, none⟩ u) a rows := by
  obtain ⟨vs, e1, e2, e3⟩ := hr
  refine ⟨vs, e1, e2.setCell_kind u (fun q v hq j hc => ?_), fun j v hj => ?_⟩
  · obtain ⟨a', c', rfl, _⟩ := e3 q v hq
    exact h1 j _ _ _ hc
  · obtain ⟨a', c', e4, e5⟩ := e3 j v hj
    refine ⟨a', c', e4, e5.setCell_kind u (fun q x hq i hc => ?_)⟩
    have hm := List.mem_of_getElem? hq
    simp only [bs, List.mem_map] at hm
    obtain ⟨y, _, rfl⟩ := hm
    exact h2 i _ hc

set_option maxRecDepth 100000 in
set_option maxHeartbeats 2000000 in
theorem vrefresh_ok (base V key n B bc : Nat) (sp : Nat → Nat) (mode t l size epoch : Nat) (nm tape : ByteArray) (P : Nat → List UInt8) (vs : Nat → Value) (xs : Nat → RecV) (w : World) (h : One w base V key n B bc sp (fun _ => false) mode t l size epoch nm P vs xs)
    (hp : IsPlan mode t l n) (hm0 : mode = 0) (he : epoch < 100) (hz : size ≤ 60) (hn1 : 1 ≤ nm.size) (hnm : nm.size ≤ 12) (hk : key < 18446744073709551616) (hl : Cof.ngroups mode t l size ≤ 60) (hP : ∀ i, i < n → (P i).length = Cof.ngroups mode t l size) (htp : Cof.tsize mode t * Cof.ngroups mode t l size ≤ tape.size) (hT : Tab w) :
    Calls Tryz.prog 39 #[.pointer (some ⟨V, 0, none⟩), .string nm, .string tape] w fun e w' =>
      e = .returned .nilIface ∧ (∃ ys, One w' base V key n B bc sp (fun _ => false) mode t l size (epoch + 1) nm (fun i => Cof.sumRow (P i) ((Cof.split (List.replicate size 0) mode t l n tape.data.toList).getD i [])) vs ys ∧ ∀ i, i < n → ∀ b, (ys i).blk = some b → w.heap.size ≤ b) ∧ Spared (fun b => b = V ∨ ∃ i, i < n ∧ (vs i).ownBlock = some b) w w' := by
  have hn1' := hp.n1
  have hn8 := hp.n8
  obtain ⟨done, ahead, hvt⟩ := h.vt
  have hR := hvt.rdy hn1' hn8
  obtain ⟨a0, c0', _, hst0⟩ := (h.st 0 (by omega)).st
  have hok0 := h.ok 0 (by omega)
  have HOBJ := hid (object_yes V key n B bc sp false a0 c0' [xs 0] (xs 0) nm w hR hst0 (has_one hok0.e.1) (by rw [pos_one hok0.e.1]; rfl))
  rw [hok0.e.1, hok0.e.2.1, hok0.e.2.2.1, hok0.e.2.2.2.1, hok0.e.2.2.2.2.1, hok0.e.2.2.2.2.2.1] at HOBJ
  have HM0 := hid hm0
  have HH := hid h
  have HP := hid hp
  have HRR := hid hR
  have HPL := hid hP
  have HTP := hid htp
  have HT := hid hT
  have HVT := hid hvt
  have hVl := cells_lt hvt.hp
  clear h hp hm0 hR hP htp hT hst0 hok0 hvt
  go_enter Tryz.func39, Tryz.ntmps39
  go_wp2_with fail
  refine HOBJ.out.mono ?_
  rintro e w1 ⟨rfl, hb1⟩
  have hba := hb1.alloc hb1.size (.cells #[.string nm, .int .i64 mode, .int .i64 t, .int .i64 l, .int .i64 size, .int .i64 epoch] 65)
  obtain ⟨w2, hw2⟩ : ∃ w2, w2 = w1.alloc (.cells #[.string nm, .int .i64 mode, .int .i64 t, .int .i64 l, .int .i64 size, .int .i64 epoch] 65) := ⟨_, rfl⟩
  have HOB := hid (show w2.heap[w1.heap.size]? = some (.cells #[.string nm, .int .i64 mode, .int .i64 t, .int .i64 l, .int .i64 size, .int .i64 epoch] 65) by rw [hw2]; exact alloc_at _ _)
  have hl1 : w1.heap.size < w2.heap.size := cells_lt HOB.out
  rw [← hw2] at hba
  have hkeep : ∀ w', Below w.heap.size w w' → One w' base V key n B bc sp (fun _ => false) mode t l size epoch nm P vs xs := by
    intro w' hb
    have hs : Spared (fun _ => False) w w' := Spared.ofBelow hb (Nat.le_refl _)
    exact ⟨⟨done, ahead, HVT.out.keeps hs (fun h => h) (fun h => h)⟩, fun i hi => (HH.out.st i hi).keeps hs (fun h => h) (fun _ _ h => h), fun i hi => (HH.out.ok i hi).keeps hs (fun _ _ h => h), HH.out.xi, HH.out.vi, HH.out.si, HH.out.bV, HH.out.bB, HH.out.bsp, HH.out.bv⟩
  have HREF := hid (refreshed_ok base V key n B bc sp mode t l size epoch nm tape P vs xs w2 (hkeep w2 hba) HP.out HM0.out he hz hn1 hnm hk hl HPL.out HTP.out (HT.out.keeps hba (Nat.le_refl _)))
  have HKEEP := hid hkeep
  clear hkeep
  go_wp2_with fail
  rw [← hw2]
  refine HREF.out.mono ?_
  rintro e w3 ⟨g, rfl, hrows, hb3⟩
  have hb03 := hba.trans (hb3.mono hba.size)
  have HOB3 := hid (show w3.heap[w1.heap.size]? = some (.cells #[.string nm, .int .i64 mode, .int .i64 t, .int .i64 l, .int .i64 size, .int .i64 epoch] 65) from (hb3.block _ hl1).trans HOB.out)
  have o5 : w3.cell? ⟨w1.heap.size, 5, none⟩ = some (.int .i64 epoch) := by rw [cells_at HOB3.out]; rfl
  have f5 : w3.frozen? ⟨w1.heap.size, 5, none⟩ = false := cells_fz HOB3.out
  have o0 : w3.cell? ⟨w1.heap.size, 0, none⟩ = some (.string nm) := by rw [cells_at HOB3.out]; rfl
  have o1 : w3.cell? ⟨w1.heap.size, 1, none⟩ = some (.int .i64 mode) := by rw [cells_at HOB3.out]; rfl
  have o2 : w3.cell? ⟨w1.heap.size, 2, none⟩ = some (.int .i64 t) := by rw [cells_at HOB3.out]; rfl
  have o3 : w3.cell? ⟨w1.heap.size, 3, none⟩ = some (.int .i64 l) := by rw [cells_at HOB3.out]; rfl
  have o4 : w3.cell? ⟨w1.heap.size, 4, none⟩ = some (.int .i64 size) := by rw [cells_at HOB3.out]; rfl
  have hkind : ∀ j v, w3.cell? ⟨w1.heap.size, j, none⟩ = some v → v = .string nm ∨ ∃ x : Int, v = .int .i64 x := by
    intro j v hj
    rw [cells_at HOB3.out] at hj
    rcases show j = 0 ∨ j = 1 ∨ j = 2 ∨ j = 3 ∨ j = 4 ∨ j = 5 ∨ 6 ≤ j by omega with rfl | rfl | rfl | rfl | rfl | rfl | h6
    · simp at hj; exact .inl hj.symm
    · simp at hj; exact .inr ⟨_, hj.symm⟩
    · simp at hj; exact .inr ⟨_, hj.symm⟩
    · simp at hj; exact .inr ⟨_, hj.symm⟩
    · simp at hj; exact .inr ⟨_, hj.symm⟩
    · simp at hj; exact .inr ⟨_, hj.symm⟩
    · rw [Array.getElem?_eq_none (by simpa using h6)] at hj; cases hj
  have HR4 := hid (hrows.setCell_kind (g := w1.heap.size) (k := 5) (.int .i64 ((epoch : Int) + 1)) (fun j a n c hc => by rcases hkind j _ hc with h | ⟨x, h⟩ <;> cases h) (fun j x hc => by rcases hkind j _ hc with h | ⟨x, h⟩ <;> cases h))
  have hb04 : Below w.heap.size w (w3.setCell ⟨w1.heap.size, 5, none⟩ (.int .i64 ((epoch : Int) + 1))) := hb03.setCell (p := ⟨w1.heap.size, 5, none⟩) hb1.size _
  obtain ⟨rows, hrw⟩ : ∃ rows, rows = (List.range n).map fun i => Cof.sumRow (P i) ((Cof.split (List.replicate size 0) mode t l n tape.data.toList).getD i []) := ⟨_, rfl⟩
  rw [← hrw] at HR4
  have hrl : rows.length = n := by rw [hrw]; simp
  have hrg : ∀ i, i < n → rows.getD i [] = Cof.sumRow (P i) ((Cof.split (List.replicate size 0) mode t l n tape.data.toList).getD i []) := fun i hi => by rw [hrw]; simp [hi]
  have hrn : ∀ i, i < n → (rows.getD i []).length = Cof.ngroups mode t l size := fun i hi => by
    rw [hrg i hi, Cof.length_sumRow, HPL.out i hi, split_len HP.out _ _ i hi (by simpa using HTP.out)]
    simp
  have HRG := hid hrg
  have HREC := hid (records_any V key n B bc sp mode t l size (epoch + 1) (Cof.ngroups mode t l size) nm (some ⟨g, 0, none⟩) n rows (w3.setCell ⟨w1.heap.size, 5, none⟩ (.int .i64 ((epoch : Int) + 1))) (HRR.out.keeps hb04 (Nat.le_refl _)) HP.out (by omega) hz hnm hk hrl hrn hl HR4.out)
  obtain ⟨w4, hw4⟩ : ∃ w4, w4 = w3.setCell ⟨w1.heap.size, 5, none⟩ (.int .i64 ((epoch : Int) + 1)) := ⟨_, rfl⟩
  clear hrows hkind hrw hrl hrg hrn HR4
  go_wp2_with fail
  rw [← hw4] at HREC hb04 ⊢
  refine HREC.out.mono ?_
  rintro e w5 ⟨gr, ys, rfl, hmd⟩
  have hb45 := hmd.bl
  have hb05 := hb04.trans (hb45.mono hb04.size)
  have h5 := HKEEP.out w5 hb05
  have hV5 := HVT.out.keeps (Spared.ofBelow (own := fun _ => False) hb05 (Nat.le_refl _)) (fun h => h) (fun h => h)
  have hrow := hmd.row
  rw [Nat.sub_self, List.replicate_zero, List.append_nil] at hrow
  obtain ⟨_, _, hgv, hgrd⟩ := owns_rd_size hrow
  have hgeq := (by simpa using hgv : (some (⟨gr, 0, none⟩ : Addr)) = _ ∧ _)
  rw [← hgeq.1] at hgrd
  have hgr := hrow.lt gr rfl
  have hvl : ∀ i, i < n → ∀ b, (vs i).ownBlock = some b → b < w.heap.size := fun i hi b hb => ((HH.out.st i hi).row.lt b hb).2
  have hvV : ∀ i, i < n → (vs i).ownBlock ≠ some V := fun i hi => row_ne (HH.out.st i hi).row HVT.out.hp (by decide)
  have hsV : ∀ i, i < n → sp i ≠ V := by
    intro i hi e
    have h1 := (HH.out.st i hi).hp
    have h2 := HVT.out.hp
    rw [e, h2] at h1
    cases h1
  obtain ⟨LB, hLB, _⟩ := HVT.out.hb
  have hvB : ∀ i, i < n → (vs i).ownBlock ≠ some B := fun i hi => row_ne (HH.out.st i hi).row hLB (by decide)
  have hBV : B ≠ V := by
    intro e
    have h2 := HVT.out.hp
    rw [← e, hLB] at h2
    cases h2
  have hnmx : ∀ i, i < n → (xs i).name = (ys[i]!).name := fun i hi => (HH.out.ok i hi).e.1.trans (hmd.ok i hi).e.1.symm
  have had : ∀ i, i < n → ∃ ad, (ys[i]!).sa = some ad := by
    intro i hi
    obtain ⟨sg, cap, hsl, _, _⟩ := row_some (hmd.ok i hi).own (by rw [(hmd.ok i hi).sn]; omega)
    have := (by simpa using hsl : (ys[i]!).sa = some ⟨sg, 0, none⟩ ∧ _)
    exact ⟨_, this.1⟩
  have hW := write_free 2 2 (stepFns 2) (fun t w' => RefJ n sp xs ys vs t w') (fun b => ∃ i, i < n ∧ (vs i).ownBlock = some b) V key n B bc gr n sp ys done ahead w5 rfl (by decide) hn8 steps_at2
    (fun j f hf args w' => by
      cases j with
      | zero => cases hf; exact Tryz.callLay args w'
      | succ j => cases j with
        | zero => cases hf; exact Tryz.callTurn args w'
        | succ j => cases hf)
    hV5 hmd.len hgrd hgr.2
    (fun w' hb q hq => by
      have e : refState n xs ys 0 q = xs q := by unfold refState; rw [if_neg (by omega), if_neg (by omega)]
      rw [e]
      exact (h5.st q hq).keeps (Spared.ofBelow (own := fun _ => False) hb (Nat.le_refl _)) (fun h => h) (fun _ _ h => h))
    (fun t w1 w2 h hs => h.keeps hs hsV hvV)
    (fun b ⟨i, hi, e⟩ => by have := hvl i hi b e; have := hb05.size; omega)
    (fun ⟨i, hi, e⟩ => hvV i hi e) (fun ⟨i, hi, e⟩ => hvB i hi e) (fun ⟨i, hi, e⟩ => by have := hvl i hi _ e; have := hb04.size; omega) (by have := hb04.size; omega) hBV
    (fun j i f w1 hf hi hJ _ => by
      cases j with
      | zero =>
        cases hf
        exact ref_lay n sp xs ys vs i w1 hJ hi HH.out.vi (hnmx i hi)
      | succ j => cases j with
        | zero =>
          cases hf
          obtain ⟨ad, hadi⟩ := had i hi
          exact ref_turn n sp xs ys vs i ad w1 hJ hi HH.out.vi (hnmx i hi) hadi (by rw [(HH.out.ok i hi).e.2.2.2.2.2.1]; omega)
        | succ j => cases hf)
  have HW := hid hW
  clear hW
  go_wp2_with fail
  refine HW.out.mono ?_
  rintro e w6 ⟨rfl, hwrt⟩
  have HWR := hid hwrt
  clear hwrt
  go_wp2_with (go_at_call 53; refine (at_nil _ _).mono ?_; rintro e w7 ⟨rfl, rfl⟩)
  go_ret
  have hJ := HWR.out.j
  have hsp6 := HWR.out.sp
  have hend : ∀ q, q < n → refState n xs ys (2 * n) q = ys[q]! := by
    intro q hq
    unfold refState
    rw [if_pos (by omega)]
    have e1 := (HH.out.ok q hq).e
    have e2 := (hmd.ok q hq).e
    generalize xs q = x at e1 ⊢
    generalize ys[q]! = y at e2 ⊢
    obtain ⟨x1, x2, x3, x4, x5, x6, x7, x8, x9, x10, x11, x12⟩ := x
    obtain ⟨y1, y2, y3, y4, y5, y6, y7, y8, y9, y10, y11, y12⟩ := y
    simp only [RecV.laid, RecV.turned] at e1 e2 ⊢
    obtain ⟨rfl, rfl, rfl, rfl, rfl, rfl, rfl, rfl, rfl⟩ := e1
    obtain ⟨rfl, rfl, rfl, rfl, rfl, rfl, rfl, rfl, rfl⟩ := e2
    rfl
  have hxb : ∀ i, i < n → ∀ b, (ys[i]!).blk = some b → w4.heap.size ≤ b := fun i hi b hb => ((hmd.ok i hi).own.lt b hb).1
  have hbw : base ≤ w.heap.size := Nat.le_of_lt (Nat.lt_of_le_of_lt HH.out.bV hVl)
  refine ⟨rfl, ⟨fun i => ys[i]!, ⟨HWR.out.vt, fun i hi => by have := hJ i hi; rwa [hend i hi] at this, fun i hi => ?_, hmd.inj, HH.out.vi, HH.out.si, HH.out.bV, HH.out.bB, HH.out.bsp, HH.out.bv⟩, fun i hi b hb => ?_⟩, ?_⟩
  · have hk := ((hmd.ok i hi).keeps hsp6 (fun b hb ho => by
      have h1 := hxb i hi b hb
      have h2 := hb04.size
      rcases ho with rfl | ⟨q, hq, hqb⟩
      · omega
      · have := hvl q hq b hqb; omega)).mono (by have := hb04.size; omega : base ≤ w4.heap.size)
    rw [HRG.out i hi] at hk
    exact hk
  · have := hxb i hi b hb
    have := hb04.size
    omega
  · exact (Spared.ofBelow hb05 (Nat.le_refl _)).trans hsp6
end Go.Proofs.YtcegdgmbponapabGreatDoor
