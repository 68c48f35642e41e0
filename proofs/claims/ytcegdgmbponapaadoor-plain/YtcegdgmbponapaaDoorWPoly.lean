/-
  The walks of package polynomial: At, withRoot, basis, Bases.
-/
import Derived.Test.YtcegdgmbponapaaDoorWRow
import Derived.Deep.QuietTactic
import Derived.BigQuiet
namespace Go.Proofs.YtcegdgmbponapaaDoor
open Go.RowKit

theorem below_drewN {B : Nat} {w w' : World} (h : Below B w w') (n : Nat) : Below B w (w'.drewN n) := by
  induction n with
  | zero => exact h
  | succ n ih => exact ih.drew

theorem polyAt_drop (p : List UInt8) (x : UInt8) (k : Nat) (h : k < p.length) : Cof.polyAt (p.drop k) x = Cof.mul (Cof.polyAt (p.drop (k + 1)) x) x ^^^ p[k] := by
  rw [List.drop_eq_getElem_cons h]; rfl

set_option maxRecDepth 100000 in
set_option maxHeartbeats 400000 in
theorem at_any (a : Option Addr) (cap : Nat) (p : List UInt8) (x : UInt8) (w : World) (hr : Rd w a (bs p)) (hn : p.length ≤ 1000) :
    Calls Tryd.prog 69 #[.slice a p.length cap, .int .u8 x.toNat] w fun e w' => e = .returned (.int .u8 (Cof.polyAt p x).toNat) ∧ Below w.heap.size w w' := by
  go_enter Tryd.func69, Tryd.ntmps69
  go_wp2
  go_loopw [5, 6] (fun v i wr => ∃ k : Nat, k ≤ p.length ∧ i = .int .i64 ((k : Int) - 1) ∧ v = .int .u8 (Cof.polyAt (p.drop k) x).toNat ∧ Below w.heap.size w wr)
    (fun _ i _ => (intOf i + 1).toNat)
  case atStart =>
    refine ⟨p.length, Nat.le_refl _, rfl, ?_, Below.refl _ _⟩
    simp [Cof.polyAt]
  case round =>
    obtain ⟨k, hk, rfl, rfl, hbel⟩ := hrel
    by_cases h0 : k = 0
    · subst h0
      go_wp2
      go_ret
      exact ⟨by simp, hbel⟩
    · obtain ⟨j, rfl⟩ : ∃ j, k = j + 1 := ⟨k - 1, by omega⟩
      obtain ⟨b, o, rfl, hbs, hcell⟩ := hr.pos (by rw [bs_length]; omega)
      have hlt : j < p.length := by omega
      have hc : wr.cell? ⟨b, o + j, none⟩ = some (.int .u8 p[j].toNat) := by rw [hbel.cell (by exact hbs)]; exact hcell j _ (by rw [bs_get _ _ hlt]; simp [hlt])
      have HP := hid (polyAt_drop p x j hlt)
      clear hcell h0
      generalize Cof.polyAt (p.drop (j + 1)) x = q at HP ⊢
      go_wp2
      go_quiet ((go_at_call 81; exact Calls.quiet_of_same (times_any _ _ _)))
      go_wp2
      go_roundw
      case rel => exact ⟨j, by omega, rfl, by rw [bits_xor, HP.out], below_drewN hbel _⟩
      case measure => simp [intOf]

theorem buildOne (w : World) (v : Value) (e : TypeId) (B : Nat) (hB : B ≤ w.heap.size) : (w.alloc (.cells #[v] e)).ownsRow B e 1 (.slice (some ⟨w.heap.size, 0, none⟩) 1 1) 1 [v] :=
  World.ownsRow_lit w #[v] 1 hB (by unfold maxLen; omega) rfl

set_option maxRecDepth 100000 in
set_option maxHeartbeats 400000 in
theorem withRoot_any (a : Option Addr) (cap n0 : Nat) (p : List UInt8) (x : UInt8) (w : World) (en : n0 = p.length) (hr : Rd w a (bs p)) (hn : n0 ≤ 900) (h0 : 0 < n0) :
    Calls Tryd.prog 87 #[.slice a n0 cap, .int .u8 x.toNat] w fun e w' =>
      ∃ a' n cap', e = .returned (.slice a' n cap') ∧ n = (Cof.withRoot p x).length ∧ Rd w' a' (bs (Cof.withRoot p x)) ∧ Below w.heap.size w w' := by
  subst en
  obtain ⟨i0, hi, hz0, hz1, hz2⟩ := info_parts Tryd.infoE
  obtain ⟨b, o, rfl, hbs, hcell⟩ := hr.pos (by rw [bs_length]; omega)
  have hnews : ∀ (j : Nat) (u : Value), (bs p)[j]? = some u → (w.alloc (.cells #[.int .u8 0] 95)).cell? ((⟨b, o, none⟩ : Addr).add j) = some u := by
    intro j u hj
    rw [add_at, (((Below.refl w.heap.size w).alloc (Nat.le_refl _) (.cells #[.int .u8 0] 95)).cell (p := ⟨b, o + j, none⟩) (by exact hbs))]
    exact hcell j u hj
  have HN := hid hnews
  clear hnews hcell
  have HO := hid (buildOne w (.int .u8 0) 95 w.heap.size (Nat.le_refl _))
  have hlen : (bs p).length = p.length * 1 := by rw [bs_length]; omega
  have HL := hid hlen
  clear hlen
  go_enter Tryd.func87, Tryd.ntmps87
  go_wp2_with (first | (at_builtin; refine wpList_append_own _ rfl (.tmp 6) (.tmp 7) 127 rfl w.heap.size 95 i0 (.int .u8 0) 1 1 Tryd.underlying127 hi hz0 hz1 hz2 rfl (by decide) _ _ _ rfl HO.out ⟨b, o, none⟩ p.length cap (bs p) rfl HL.out HN.out (bs_one _) (by unfold maxLen; omega) (by omega) (by simp) ?_; intro v1 w1 hown1 hgrow1 _; rw [Nat.add_comm 1 p.length] at hown1; obtain ⟨a1, cap1, rfl, hrd1⟩ := owns_any_rd hown1; have hb1 : Below w.heap.size w w1 := ((Below.refl w.heap.size w).alloc (Nat.le_refl _) (.cells #[.int .u8 0] 95)).grown hgrow1 (by simp) (fun k hk => (HO.out.lt k hk).1); clear hown1 hgrow1) | fail)
  refine (scaleP _ _ _ p x _ rfl (hr.below hb1 (Nat.le_refl _)) (by omega)).mono ?_
  rintro e w2 ⟨g2, rfl, hrd2, hb2⟩
  go_wp2_with fail
  refine (sumP _ _ _ _ _ _ (0 :: p) (Cof.scaleRow p x) _ rfl (by rw [Cof.length_scaleRow]) (hrd1.below hb2 (Nat.le_refl _)) hrd2 (by simp; omega) (by omega)).mono ?_
  rintro e w3 ⟨g3, l3, rfl, hl3, hrd3, hb3⟩
  have HL3 := hid hl3
  clear hl3
  go_wp2
  go_ret
  exact ⟨_, _, _, rfl, HL3.out, hrd3, hb1.trans ((hb2.mono hb1.size).trans (hb3.mono (Nat.le_trans hb1.size hb2.size)))⟩

theorem at_n (a : Option Addr) (cap n : Nat) (p : List UInt8) (x : UInt8) (w : World) (en : n = p.length) (hr : Rd w a (bs p)) (hn : n ≤ 1000) :
    Calls Tryd.prog 69 #[.slice a n cap, .int .u8 x.toNat] w fun e w' => e = .returned (.int .u8 (Cof.polyAt p x).toNat) ∧ Below w.heap.size w w' := by
  subst en; exact at_any a cap p x w hr hn

theorem basisTo_bounds (xs : List UInt8) (one k : Nat) : 0 < (Cof.basisTo xs one k).length ∧ (Cof.basisTo xs one k).length ≤ k + 1 := by
  induction k with
  | zero => simp [Cof.basisTo]
  | succ k ih =>
    simp only [Cof.basisTo]
    split
    · omega
    · rw [Cof.length_withRoot]; omega

set_option maxRecDepth 100000 in
set_option maxHeartbeats 400000 in
theorem basis_any (a : Option Addr) (cap n : Nat) (xs : List UInt8) (one : Nat) (w : World) (en : n = xs.length) (hr : Rd w a (bs xs)) (hn : n ≤ 800) (ho : one < n) :
    Calls Tryd.prog 80 #[.slice a n cap, .int .i64 one] w fun e w' =>
      ∃ a' l cap', e = .returned (.slice a' l cap') ∧ l = (Cof.basis xs one).length ∧ Rd w' a' (bs (Cof.basis xs one)) ∧ Below w.heap.size w w' := by
  subst en
  obtain ⟨b, o, rfl, hbs, hcell⟩ := hr.pos (by rw [bs_length]; omega)
  have HC := hid hcell
  clear hcell
  go_enter Tryd.func80, Tryd.ntmps80
  go_wp2_with fail
  go_loopw [5, 11] (fun v i wr => ∃ (k : Nat) (a' : Option Addr) (l cap' : Nat), k ≤ xs.length ∧ i = .int .i64 k ∧ v = .slice a' l cap' ∧ l = (Cof.basisTo xs one k).length ∧ Rd wr a' (bs (Cof.basisTo xs one k)) ∧ Below w.heap.size w wr)
    (fun _ i _ => xs.length - (intOf i).toNat)
  case atStart =>
    refine ⟨0, _, 1, 1, Nat.zero_le _, rfl, rfl, rfl, owns_rd (buildOne w (.int .u8 1) 95 w.heap.size (Nat.le_refl _)), (Below.refl _ _).alloc (Nat.le_refl _) _⟩
  case round =>
    obtain ⟨k, a', l, cap', hk, rfl, rfl, hl, hrd, hbel⟩ := hrel
    have hbd := basisTo_bounds xs one k
    rw [← hl] at hbd
    have HL := hid hl
    clear hl
    by_cases hlt : k < xs.length
    · have hc1 : wr.cell? ⟨b, o + k, none⟩ = some (.int .u8 xs[k].toNat) := by rw [hbel.cell (by exact hbs)]; exact HC.out k _ (by rw [bs_get _ _ hlt]; simp [hlt])
      by_cases hko : k = one
      · have hko' : ((k : Int) != (one : Int)) = false := by simp [hko]
        have HK := hid hko
        clear hko
        go_wp2_with fail
        go_roundw
        case rel => exact ⟨k + 1, a', l, cap', by omega, by go_num, rfl, by rw [HL.out]; simp [Cof.basisTo, HK.out], by simpa [Cof.basisTo, HK.out] using hrd, hbel⟩
        case measure => simp [intOf]; omega
      · have hko' : ((k : Int) != (one : Int)) = true := by rw [bne_iff_ne]; omega
        have HK := hid hko
        clear hko
        go_wp2_with (go_at_call 87; refine (withRoot_any _ _ _ (Cof.basisTo xs one k) xs[k] _ HL.out hrd (by omega) (by omega)).mono ?_; rintro e w1 ⟨a1, l1, cap1, rfl, hl1, hrd1, hb1⟩; have HL1 := hid hl1; clear hl1)
        have hbt : Cof.basisTo xs one (k + 1) = Cof.withRoot (Cof.basisTo xs one k) xs[k] := by simp [Cof.basisTo, HK.out, hlt]
        go_roundw
        case rel => exact ⟨k + 1, a1, l1, cap1, by omega, by go_num, rfl, by rw [hbt]; exact HL1.out, by rw [hbt]; exact hrd1, hbel.trans (hb1.mono hbel.size)⟩
        case measure => simp [intOf]; omega
    · have hkn : k = xs.length := by omega
      subst hkn
      have hc1 : wr.cell? ⟨b, o + one, none⟩ = some (.int .u8 xs[one].toNat) := by rw [hbel.cell (by exact hbs)]; exact HC.out one _ (by rw [bs_get _ _ ho]; simp [ho])
      have hbt : Cof.basis xs one = Cof.scaleRow (Cof.basisTo xs one xs.length) (Cof.inv (Cof.polyAt (Cof.basisTo xs one xs.length) xs[one])) := by simp [Cof.basis, ho]
      have HB := hid hbt
      clear hbt
      go_wp2_with fail
      refine (at_n _ _ _ (Cof.basisTo xs one xs.length) xs[one] _ HL.out hrd (by omega)).mono ?_
      rintro e w1 ⟨rfl, hb1⟩
      go_wp2_with fail
      refine (inverse_any _ _).mono ?_
      rintro e w1' ⟨rfl, rfl⟩
      go_wp2_with fail
      refine (scaleP _ _ _ (Cof.basisTo xs one xs.length) _ _ HL.out (hrd.below hb1 (Nat.le_refl _)) (by omega)).mono ?_
      rintro e w2 ⟨g2, rfl, hrd2, hb2⟩
      go_wp2
      go_ret
      exact ⟨_, _, _, rfl, by rw [HB.out, Cof.length_scaleRow]; exact HL.out, by rw [HB.out]; exact hrd2, hbel.trans ((hb1.mono hbel.size).trans (hb2.mono (Nat.le_trans hbel.size hb1.size)))⟩

theorem Tryd.infoPoly : (Tryd.prog.info? 127).map (fun i => (i.zero, i.size, i.bytes)) = some (some (.slice none 0 0), 1, 24) := by kernel_rfl

set_option maxRecDepth 100000 in
set_option maxHeartbeats 400000 in
theorem bases_any (a : Option Addr) (cap n : Nat) (xs : List UInt8) (w : World) (en : n = xs.length) (hr : Rd w a (bs xs)) (hn : n ≤ 800) :
    Calls Tryd.prog 66 #[.slice a n cap] w fun e w' =>
      ∃ g, e = .returned (.slice (some ⟨g, 0, none⟩) n n) ∧ RdRows w' (some ⟨g, 0, none⟩) (Cof.bases xs) ∧ Below w.heap.size w w' := by
  subst en
  obtain ⟨i0, hi, hz0, hz1, hz2⟩ := info_parts Tryd.infoPoly
  go_enter Tryd.func66, Tryd.ntmps66
  go_wp2_with (first | (at_make; refine wpList_make_full _ rfl (.tmp 6) (.tmp 6) 123 rfl w.heap.size 127 i0 (.slice none 0 0) 1 Tryd.underlying123 hi hz0 hz1 .i64 .i64 _ _ xs.length rfl rfl rfl rfl (by rw [hz2]; omega) (by unfold maxLen; omega) (Nat.le_refl _) ?_; intro w1 hown1 hgrow1; have hb1 := grown_below hgrow1; have HO1 := hid (made_rows (Cof.basis xs) hown1); clear hown1 hgrow1) | fail)
  go_loopw [10] (fun i wr => ∃ (k : Nat) (vs : List Value), k ≤ xs.length ∧ i = .int .i64 k ∧ Rows wr w.heap.size w.heap.size xs.length k 127 (Cof.basis xs) vs ∧ Below w.heap.size w wr)
    (fun i _ => xs.length - (intOf i).toNat)
  case atStart => exact ⟨0, _, Nat.zero_le _, rfl, HO1.out, hb1⟩
  case round =>
    obtain ⟨k, vs, hk, rfl, hrows, hbel⟩ := hrel
    by_cases hlt : k < xs.length
    · have HR := hid hrows
      clear hrows
      go_wp2_with fail
      refine (basis_any _ _ _ xs k _ rfl (hr.below hbel (Nat.le_refl _)) (by omega) (by omega)).mono ?_
      rintro e w2 ⟨a2, l2, cap2, rfl, hl2, hrd2, hb2⟩
      have hrows2 := HR.out.kept hb2 (Nat.le_refl _)
      have hfr := hrows2.own.frozenAt k
      obtain ⟨a3, l3, c3, hc3⟩ := hrows2.cell k hlt
      have HN := hid (hrows2.next (cap := cap2) hl2 hrd2)
      clear hrows2 hl2 hrd2
      go_wp2
      go_roundw
      case rel => exact ⟨k + 1, _, by omega, by go_num, HN.out, (hbel.trans (hb2.mono hbel.size)).setCell (Nat.le_refl _) _⟩
      case measure => simp [intOf]; omega
    · have hkn : k = xs.length := by omega
      subst hkn
      have HF := hid hrows.full
      clear hrows
      go_wp2
      go_ret
      exact ⟨_, rfl, HF.out, hbel⟩

end Go.Proofs.YtcegdgmbponapaaDoor
