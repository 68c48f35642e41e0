/-
  The calls of a coffer that only read.
  A shard with one byte changed is told: each step of the tag is one to one.
-/
import Derived.Test.YtcegdgmbponapaaGreatDoorPart34
import Derived.Test.YtcegdgmbponapaaGreatDoorPart23
namespace Go.Proofs.YtcegdgmbponapaaGreatDoor
open Go.RowKit
attribute [local go_sem ↓] Go.wp_at_zero Go.wp_at_succ

set_option maxRecDepth 100000 in
theorem cget_of (C V size : Nat) (nm : ByteArray) (J : List UInt8) (w : World) (h : Cf w C V) (hJ : size = J.length)
    (hv : Calls Tryz.prog 50 #[.pointer (some ⟨V, 0, none⟩), .string nm] w fun e w' => ∃ av cv, e = .returned (.tuple #[.slice av size cv, .nilIface]) ∧ Rd w' av (bs J) ∧ Below w.heap.size w w') :
    Calls Tryz.prog 24 #[.pointer (some ⟨C, 0, none⟩), .string nm] w fun e w' => e = .returned (.tuple #[.string ⟨J.toArray⟩, .int .i64 0]) ∧ Below w.heap.size w w' := by
  have c0 : w.cell? ⟨C, 0, none⟩ = some (.pointer (some ⟨V, 0, none⟩)) := by rw [cells_at h]; rfl
  have HV := hid hv
  have HJ := hid hJ
  clear h hv hJ
  go_enter Tryz.func24, Tryz.ntmps24
  go_wp2_with fail
  refine HV.out.mono ?_
  rintro e w1 ⟨av, cv, rfl, hrd, hb1⟩
  have HRD := hid hrd
  clear hrd
  go_wp2_with (go_at_call 47; refine (told_ok av cv size J _ HJ.out HRD.out).mono ?_; rintro e w2 ⟨rfl, rfl⟩)
  go_ret2
  exact ⟨rfl, hb1⟩

set_option maxRecDepth 100000 in
theorem cshard_of (C V i m : Nat) (nm : ByteArray) (X : List UInt8) (w : World) (h : Cf w C V) (hm : m = X.length)
    (hv : Calls Tryz.prog 48 #[.pointer (some ⟨V, 0, none⟩), .int .i64 i, .string nm] w fun e w' => ∃ av cv, e = .returned (.tuple #[.slice av m cv, .nilIface]) ∧ Rd w' av (bs X) ∧ Below w.heap.size w w') :
    Calls Tryz.prog 22 #[.pointer (some ⟨C, 0, none⟩), .int .i64 i, .string nm] w fun e w' => e = .returned (.tuple #[.string ⟨X.toArray⟩, .int .i64 0]) ∧ Below w.heap.size w w' := by
  have c0 : w.cell? ⟨C, 0, none⟩ = some (.pointer (some ⟨V, 0, none⟩)) := by rw [cells_at h]; rfl
  have HV := hid hv
  have HJ := hid hm
  clear h hv hm
  go_enter Tryz.func22, Tryz.ntmps22
  go_wp2_with fail
  refine HV.out.mono ?_
  rintro e w1 ⟨av, cv, rfl, hrd, hb1⟩
  have HRD := hid hrd
  clear hrd
  go_wp2_with (go_at_call 47; refine (told_ok av cv m X _ HJ.out HRD.out).mono ?_; rintro e w2 ⟨rfl, rfl⟩)
  go_ret2
  exact ⟨rfl, hb1⟩

/-- The shard of store i. -/
theorem One.shard {w : World} {base V key n B bc : Nat} {sp : Nat → Nat} {down : Nat → Bool} {mode t l size epoch : Nat} {nm : ByteArray} {P : Nat → List UInt8} {vs : Nat → Value} {xs : Nat → RecV} (h : One w base V key n B bc sp down mode t l size epoch nm P vs xs) (C i : Nat) (hc : Cf w C V) (hp : IsPlan mode t l n) (hi : i < n) :
    Calls Tryz.prog 22 #[.pointer (some ⟨C, 0, none⟩), .int .i64 i, .string nm] w fun e w' => e = .returned (.tuple #[.string ⟨(Cof.sealed key (Cof.head mode t l n i epoch size nm.data.toList ++ P i)).toArray⟩, .int .i64 0]) ∧ Below w.heap.size w w' := by
  obtain ⟨done, ahead, hvt⟩ := h.vt
  have hR := hvt.rdy hp.n1 hp.n8
  obtain ⟨a, c, _, hst⟩ := (h.st i hi).st
  have hok := h.ok i hi
  have hnm' := hok.e.1
  have hXl : (Cof.sealed key (Cof.head mode t l n i epoch size nm.data.toList ++ P i)).length = 10 + nm.size + (P i).length + 8 := by
    unfold Cof.sealed
    simp [Cof.length_head, Cof.length_high]
    omega
  refine cshard_of C V i (10 + nm.size + (P i).length + 8) nm _ w hc hXl.symm ?_
  refine (vshard_yes V key n B bc sp i (down i) a c [xs i] (xs i) nm w hR hi hst (has_one hnm') (by rw [pos_one hnm']; rfl)).mono ?_
  rintro e w' ⟨rfl, hb⟩
  obtain ⟨sa', sc', hsv, hrd⟩ := owns_rd_size hok.own
  have hsn := hok.sn
  refine ⟨(xs i).sa, (xs i).sc, by rw [hsn], ?_, hb⟩
  cases hsv
  exact hrd.below hb (Nat.le_refl _)

set_option maxRecDepth 100000 in
set_option maxHeartbeats 1000000 in
theorem cobjects_one (C V key n B bc : Nat) (sp : Nat → Nat) (down : Bool) (v : Value) (r : RecV) (w : World) (hc : Cf w C V) (h : Rdy w V key n B bc sp) (hs : Sto w (sp 0) down v [r]) (hnm : r.name.size ≤ 1000) :
    Calls Tryz.prog 27 #[.pointer (some ⟨C, 0, none⟩)] w fun e w' => ∃ ov, e = .returned ov ∧ w'.ownsRow w.heap.size 55 6 ov 1 r.obj ∧ Below w.heap.size w w' := by
  have c0 : w.cell? ⟨C, 0, none⟩ = some (.pointer (some ⟨V, 0, none⟩)) := by rw [cells_at hc]; rfl
  have HV := hid (vobjects_any V key n B bc sp down v [r] w h hs)
  clear hc h hs
  go_enter Tryz.func27, Tryz.ntmps27
  go_wp2_with fail
  refine HV.out.mono ?_
  rintro e w1 ⟨ov, rfl, hown, hb1⟩
  rw [show objs [r] = r.obj by simp [objs], show [r].length = 1 from rfl] at hown
  obtain ⟨g, cap, rfl, hg1, hg2⟩ := row_some hown (by decide)
  have HO := hid hown
  clear hown
  go_wp2_with fail
  go_loopw [12] (fun u wr => ∃ (k : Nat), k ≤ 1 ∧ u = .int .i64 k ∧ Below w1.heap.size w1 wr) (fun u _ => 1 - (intOf u).toNat)
  case atStart => exact ⟨0, Nat.zero_le _, rfl, Below.refl _ _⟩
  case round =>
    obtain ⟨k, hk, rfl, hbr⟩ := hrel
    have hor := owns_below_size HO.out hbr (Nat.le_refl _)
    have q0 : wr.cell? ⟨g, 0, none⟩ = some (.string r.name) := by rw [hor.cellAt 0 (by decide)]; rfl
    by_cases hk0 : k = 0
    · subst hk0
      clear hor
      go_wp2_with fail
      refine (sclone_any r.name wr (by omega)).mono ?_
      rintro e w4 ⟨rfl, hb4⟩
      have hbr4 := hbr.trans (hb4.mono hbr.size)
      have hor4 := owns_below_size HO.out hbr4 (Nat.le_refl _)
      have q4 : w4.cell? ⟨g, 0, none⟩ = some (.string r.name) := by rw [hor4.cellAt 0 (by decide)]; rfl
      have f4 : w4.frozen? ⟨g, 0, none⟩ = false := hor4.frozenAt 0
      have HSS := hid (setCell_self q4)
      clear hor4
      go_wp2_with fail
      go_roundw
      case rel => exact ⟨1, Nat.le_refl _, by go_num, by rw [HSS.out]; exact hbr4⟩
      case measure => simp [intOf]
    · have hk1 : k = 1 := by omega
      subst hk1
      have HOR := hid hor
      clear hor
      go_wp2_with fail
      go_ret
      exact ⟨_, rfl, HOR.out, hb1.trans (hbr.mono hb1.size)⟩

/-- What an opened coffer has, for a Put. -/
theorem Opening.parts {w w1 : World} {key n : Nat} {ps : List Nat} {v : Value} (h : Opening w key n ps v w1) (h1 : 1 ≤ n) : ∃ B bc, Vt w1 w.heap.size key n B bc (fun i => ps[i]!) 0 false 0 false ∧ (∀ i, i < n → Sto w1 (ps[i]!) false (.slice none 0 0) []) ∧ (∀ i j, i < j → j < n → ps[i]! ≠ ps[j]!) ∧ w.heap.size ≤ B ∧ ∀ i, i < n → w.heap.size ≤ ps[i]! := by
  obtain ⟨g, cap, rfl, hg1, hg2⟩ := row_some h.row (by omega)
  have hlen := h.len
  rcases h.row with ⟨_, ⟨hx, _⟩ | ⟨g', cap', cur, hv, _, h4, _, _, _, h8⟩⟩
  · cases hx
  · cases hv
    have hmem : ∀ i, i < n → ps[i]! ∈ ps := fun i hi => by rw [getElem!_pos ps i (by omega)]; exact List.getElem_mem _
    refine ⟨g, cap, ⟨h.hp, cur, h4, fun i hi => ?_⟩, fun i hi => ⟨(h.st _ (hmem i hi)).1, ⟨rfl, .inl ⟨rfl, rfl⟩⟩, sorted_nil, by simp⟩, fun i j hij hj e => ?_, hg1, fun i hi => Nat.le_of_lt (h.st _ (hmem i hi)).2⟩
    · have e1 : (cur.toList.take (n * 1))[i]? = (ptrs ps)[i]? := by rw [h8]
      rw [List.getElem?_take, if_pos (by omega)] at e1
      rw [← Array.getElem?_toList, e1, getElem!_pos ps i (by omega)]
      simp [ptrs, show i < ps.length by omega]
    · rw [getElem!_pos ps i (by omega), getElem!_pos ps j (by omega)] at e
      exact List.pairwise_iff_getElem.1 h.nd i j (by omega) (by omega) hij e
end Go.Proofs.YtcegdgmbponapaaGreatDoor

namespace Go.Proofs.YtcegdgmbponapaaGreatDoor
open Go.RowKit

theorem Cof.xor_cancel {a b c : Nat} (h : a ^^^ c = b ^^^ c) : a = b := by
  have h2 : (a ^^^ c) ^^^ c = (b ^^^ c) ^^^ c := by rw [h]
  rwa [Nat.xor_assoc, Nat.xor_assoc, Nat.xor_self, Nat.xor_zero, Nat.xor_zero] at h2

theorem Cof.mul_back (x y : Nat) (hx : x < 18446744073709551616) (hy : y < 18446744073709551616) (h : x * 1099511628211 % 18446744073709551616 = y * 1099511628211 % 18446744073709551616) : x = y := by
  have key : ∀ z, z < 18446744073709551616 → (z * 1099511628211 % 18446744073709551616) * 14886173955864302971 % 18446744073709551616 = z := by
    intro z hz
    rw [Nat.mod_mul_mod, Nat.mul_assoc, show 1099511628211 * 14886173955864302971 = 1 + 887285111055 * 18446744073709551616 from by decide, Nat.mul_add, Nat.mul_one, ← Nat.mul_assoc, Nat.add_mul_mod_self_right]
    exact Nat.mod_eq_of_lt hz
  rw [← key x hx, h, key y hy]

theorem Cof.xor_byte_lt (s : Nat) (b : UInt8) (h : s < 18446744073709551616) : s ^^^ b.toNat < 18446744073709551616 :=
  Nat.xor_lt_two_pow (n := 64) h (Nat.lt_of_lt_of_le (UInt8.toNat_lt b) (by decide))

theorem Cof.tagStep_back (s s' : Nat) (b b' : UInt8) (h : s < 18446744073709551616) (h' : s' < 18446744073709551616) (e : Cof.tagStep s b = Cof.tagStep s' b') : s ^^^ b.toNat = s' ^^^ b'.toNat :=
  Cof.mul_back _ _ (Cof.xor_byte_lt s b h) (Cof.xor_byte_lt s' b' h') e

theorem Cof.fold_back (xs : List UInt8) : ∀ s s', s < 18446744073709551616 → s' < 18446744073709551616 → xs.foldl Cof.tagStep s = xs.foldl Cof.tagStep s' → s = s' := by
  induction xs with
  | nil => intro s s' _ _ h; exact h
  | cons x xs ih =>
    intro s s' h h' e
    rw [List.foldl_cons, List.foldl_cons] at e
    have e1 := ih _ _ (Nat.mod_lt _ (by decide)) (Nat.mod_lt _ (by decide)) e
    exact Cof.xor_cancel (Cof.tagStep_back s s' x x h h' e1)

/-- One byte changed: another tag. -/
theorem Cof.tag_one (key : Nat) (A C : List UInt8) (b b' : UInt8) (hk : key < 18446744073709551616) (h : Cof.tag key (A ++ b :: C) = Cof.tag key (A ++ b' :: C)) : b = b' := by
  unfold Cof.tag at h
  rw [List.foldl_append, List.foldl_append, List.foldl_cons, List.foldl_cons] at h
  have h0 : 14695981039346656037 ^^^ key < 18446744073709551616 := Nat.xor_lt_two_pow (n := 64) (by decide) hk
  have h1 := Cof.fold_lt A _ h0
  have e := Cof.fold_back C _ _ (Nat.mod_lt _ (by decide)) (Nat.mod_lt _ (by decide)) h
  have e2 := Cof.tagStep_back _ _ b b' h1 h1 e
  rw [Nat.xor_comm _ b.toNat, Nat.xor_comm _ b'.toNat] at e2
  exact UInt8.toNat_inj.1 (Cof.xor_cancel e2)

theorem Cof.high_back (x y : Nat) (hx : x < 18446744073709551616) (hy : y < 18446744073709551616) (h : Cof.high x 8 = Cof.high y 8) : x = y := by
  have key : ∀ j, j < 8 → x / 256 ^ (8 - 1 - j) % 256 = y / 256 ^ (8 - 1 - j) % 256 := by
    intro j hj
    have h2 : (Cof.high x 8)[j]? = (Cof.high y 8)[j]? := by rw [h]
    unfold Cof.high at h2
    simp [hj] at h2
    have h3 := congrArg UInt8.toNat h2
    simpa [UInt8.toNat_ofNat'] using h3
  have k0 := key 0 (by omega)
  have k1 := key 1 (by omega)
  have k2 := key 2 (by omega)
  have k3 := key 3 (by omega)
  have k4 := key 4 (by omega)
  have k5 := key 5 (by omega)
  have k6 := key 6 (by omega)
  have k7 := key 7 (by omega)
  simp at k0 k1 k2 k3 k4 k5 k6 k7
  omega

/-- A shard with one byte changed. -/
def Cof.spoil (X : List UInt8) (at' : Nat) (d : UInt8) : List UInt8 := X.set at' (X.getD at' 0 ^^^ d)

theorem Cof.length_spoil (X : List UInt8) (at' : Nat) (d : UInt8) : (Cof.spoil X at' d).length = X.length := by simp [Cof.spoil]

theorem Cof.byte_twice (a d : UInt8) : a ^^^ d ^^^ d = a := by
  rw [UInt8.xor_assoc, UInt8.xor_self, UInt8.xor_zero]

theorem Cof.spoil_twice (X : List UInt8) (at' : Nat) (d : UInt8) (h : at' < X.length) : Cof.spoil (Cof.spoil X at' d) at' d = X := by
  unfold Cof.spoil
  simp only [List.set_set]
  apply List.ext_getElem (by simp)
  intro i h1 h2
  rw [List.getElem_set]
  split
  · rename_i e
    subst e
    simp [h, Cof.byte_twice]
  · rfl

theorem Cof.byte_moves (a d : UInt8) (hd : d ≠ 0) : a ^^^ d ≠ a := by
  intro h
  apply hd
  have h2 : a ^^^ (a ^^^ d) = a ^^^ a := by rw [h]
  rw [← UInt8.xor_assoc, UInt8.xor_self, UInt8.zero_xor] at h2
  exact h2

theorem Cof.spoilt_told (key : Nat) (hd P P' : List UInt8) (at' : Nat) (d : UInt8) (hk : key < 18446744073709551616) (hl : P'.length = P.length) (hat : at' < (Cof.sealed key (hd ++ P)).length) (h0 : d ≠ 0) : Cof.spoil (Cof.sealed key (hd ++ P)) at' d ≠ Cof.sealed key (hd ++ P') := by
  intro h
  obtain ⟨A, hA⟩ : ∃ A, A = hd ++ P := ⟨_, rfl⟩
  obtain ⟨A', hA'⟩ : ∃ A', A' = hd ++ P' := ⟨_, rfl⟩
  have hlA : A'.length = A.length := by rw [hA, hA']; simp [hl]
  rw [← hA] at h hat
  rw [← hA'] at h
  clear hA hA'
  have tlt : ∀ L, Cof.tag key L < 18446744073709551616 := fun L => by
    unfold Cof.tag
    exact Cof.fold_lt L _ (Nat.xor_lt_two_pow (n := 64) (by decide) hk)
  unfold Cof.sealed at h hat
  unfold Cof.spoil at h
  obtain ⟨z, hz⟩ : ∃ z, z = (A ++ Cof.high (Cof.tag key A) 8).getD at' 0 ^^^ d := ⟨_, rfl⟩
  have hmv := Cof.byte_moves ((A ++ Cof.high (Cof.tag key A) 8).getD at' 0) d h0
  rw [← hz] at h hmv
  clear hz
  by_cases hc : at' < A.length
  · rw [List.set_append_left _ _ hc] at h
    obtain ⟨e1, e2⟩ := List.append_inj h (by simp [hlA])
    have e3 := Cof.high_back _ _ (tlt _) (tlt _) e2
    rw [← e1] at e3
    have hs : A = A.take at' ++ A[at'] :: A.drop (at' + 1) := by simp
    have hs2 : A.set at' z = A.take at' ++ z :: A.drop (at' + 1) := by
      rw [List.set_eq_take_append_cons_drop]; simp [hc]
    rw [hs2] at e3
    have e4 : Cof.tag key (A.take at' ++ A[at'] :: A.drop (at' + 1)) = Cof.tag key (A.take at' ++ z :: A.drop (at' + 1)) := by rw [← hs]; exact e3
    have e5 := Cof.tag_one key _ _ _ _ hk e4
    apply hmv
    rw [← e5, List.getD_eq_getElem?_getD, List.getElem?_append_left hc, List.getElem?_eq_getElem hc]
    rfl
  · rw [List.set_append_right _ _ (by omega)] at h
    obtain ⟨e1, e2⟩ := List.append_inj h (by simp [hlA])
    subst e1
    have hat2 : at' - A.length < (Cof.high (Cof.tag key A) 8).length := by rw [List.length_append] at hat; omega
    have e3 : ((Cof.high (Cof.tag key A) 8).set (at' - A.length) z)[at' - A.length]? = (Cof.high (Cof.tag key A) 8)[at' - A.length]? := by rw [e2]
    rw [List.getElem?_set_self hat2] at e3
    apply hmv
    rw [List.getD_eq_getElem?_getD, List.getElem?_append_right (by omega), ← e3]
    rfl
end Go.Proofs.YtcegdgmbponapaaGreatDoor
